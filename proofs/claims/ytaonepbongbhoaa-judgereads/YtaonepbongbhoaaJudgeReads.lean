/-
  JudgeReads: a read that is not what is there fits in no order that goes by the graph.
-/
import Derived.Test.YtaonepbongbhoaaJReadsB
namespace Go.Proofs.Ytaonepbongbhoaa.Jd
open Go.RowKit
open Az
open Hi (Ev Cr encE crs crL EvArg atE evA)
open Tx (i64p)
set_option maxRecDepth 100000 in
set_option maxHeartbeats 8000000 in
theorem judgeReads_walk (A : Option Addr) (n c : Nat) (L : List Ev) (a1 : Nat) (w : World) (h : EvArg w A n c L) (ha1 : a1 ≤ 255) :
    Calls Try.prog 5 #[.slice A n c, .int .u8 (a1 : Nat)] w fun e w' => e = .returned (.bool true) ∧ Below w.heap.size w w' := by
  obtain ⟨rfl, hnc, hcm, hat, hok⟩ := h
  have H := Lib.hid hat
  have HOK := Lib.hid hok
  have hN : (L.length : Int) ≤ 9223372036854775807 := by unfold maxLen at hcm; omega
  clear hat hok hnc hcm
  by_cases hl : L.length ≤ 100
  · have HL := Lib.hid (show L.length ≤ 2000 from by omega)
    have HL1 := Lib.hid hl
    have HL3 := Lib.hid (show L.length ≤ 300 from by omega)
    have hmm := @run_makeMap Try.prog
    go_enter Try.func5, Try.ntmps5
    go_wp2_with fail
    refine (jalive_any _).mono ?_
    rintro r w1 ⟨rfl, hb1⟩
    have HB1 := Lib.hid hb1
    clear hb1
    go_wp2_with fail
    refine (theirs_own A c L w1 (H.out.below HB1.out (Nat.le_refl _)) HL3.out).mono ?_
    rintro r w2 ⟨B2, d2, rfl, ho2, hb2⟩
    have HB2 := Lib.hid (HB1.out.trans (hb2.mono HB1.out.size))
    have HB2' := Lib.hid hb2
    have HT2 := Lib.hid ho2
    clear ho2 hb2 H
    have HAT2 := Lib.hid (show Rn.At encE w2 B2 L from by
      obtain ⟨_, _, e, _, _, h3, _⟩ := HT2.out.slice
      rw [(Value.slice.inj e).1]; exact h3)
    go_wp2_with fail
    refine (opaque_any B2 d2 L w2 HAT2.out HOK.out HL.out).mono ?_
    rintro r w3 ⟨rfl, hb3⟩
    have HT3 := Lib.hid (HT2.out.below hb3 (Nat.le_refl _))
    have HAT3 := Lib.hid (at_below HAT2.out hb3)
    have HB3 := Lib.hid (HB2.out.trans (hb3.mono HB2.out.size))
    have HS3 := Lib.hid (show w1.heap.size ≤ w3.heap.size ∧ w.heap.size ≤ w1.heap.size from ⟨Nat.le_trans HB2'.out.size hb3.size, HB1.out.size⟩)
    clear hb3 HB2 HT2 HAT2 HB2' HB1
    cases hq : opqB L with
    | false =>
      clear hq
      go_wp2
      go_ret
      exact ⟨rfl, HB3.out⟩
    | true =>
      have HQ := Lib.hid hq
      clear hq
      go_wp2
      go_loopw [6, 25] (RdRel L w3 w3.heap.size) (fun _ i _ => L.length - (intOf i).toNat)
      case atStart => exact ⟨0, _, [], Nat.zero_le _, rfl, mapJ_made w3, Tch.zero L, Rds.nil L, Rn.Own.nil _ _ _, Rn.below_new _ _, by rw [Rn.size_new]; exact Nat.le_refl _⟩
      case round =>
        obtain ⟨k, f, R, hk, rfl, hm, ht, hr, ho, hb, hle⟩ := hrel
        have HM := Lib.hid hm
        have HT := Lib.hid ht
        have HR := Lib.hid hr
        have HO := Lib.hid ho
        have HB := Lib.hid hb
        have HLE := Lib.hid hle
        clear hm ht hr ho hb hle
        by_cases hlt : k < L.length
        · have he : L[k]? = some L[k] := List.getElem?_eq_getElem hlt
          generalize L[k] = e at he
          obtain ⟨ad, hB2, c0, c1, c2, c3, c4⟩ := atE (HAT3.out.below HB.out (Nat.le_refl _)) he
          have HE := Lib.hid he
          have hko := HOK.out e (List.mem_of_getElem? he)
          have hz := (HT.out e.id e.x).1
          have HKL := Lib.hid hlt
          clear he
          have hlt' : (k : Int) < (L.length : Int) := by omega
          have h0 : (0 : Int) ≤ (k : Int) := by omega
          obtain ⟨kd, id, x, vk, vn⟩ := e
          dsimp only at c0 c1 c2 c3 c4 hz
          have HI := Lib.hid (show i64p id ∧ i64p x from ⟨hko.2.1, hko.2.2.1⟩)
          obtain ⟨z, hfz⟩ : ∃ z, z = f id x := ⟨_, rfl⟩
          rw [← hfz] at hz
          have HZ := Lib.hid hfz.symm
          have hz0 := hz.1
          have hz1 : z ≤ 100 := by have := hz.2; omega
          have HW := Lib.hid (KS.new HM.out HO.out HB.out HLE.out HZ.out kd vk vn)
          have hwr := wrap_one hz0 hz1
          clear hko hz hfz
          subst hB2
          by_cases h2 : kd = 2
          · subst h2
            clear hlt
            go_wp2
            generalize World.alloc _ _ = W1 at HW ⊢
            have HM0 := Lib.hid HW.out.drew.map
            generalize wr.heap.size + 1 = q at HW ⊢
            generalize wr.heap.size = p at HW ⊢
            refine wp_region_noPanic ?_
            refine region_z 7 (fun W => KS w3 w3.heap.size (k + 1) f id x z _ _ q _ R W) 6 1000 rfl (by kernel_rfl) ((HW.out.more (Nat.le_succ k)).drew) (fun hHeld => ?_)
            refine take_d [2, 3, 4, 5, 6] 0 38 (.map (some w3.heap.size)) rfl rfl (by kernel_rfl) (by kernel_rfl) (by kernel_rfl) (by kernel_rfl) (fun _ _ _ h => h) (Or.inl ⟨by rfl, by intro W hW; clear hW; go_simp⟩) hHeld ?_
            simp only [put_laws]
            refine take_d [2, 3, 4, 5, 6] 1 39 (.agg #[.int .i64 id, .int .i64 x]) rfl rfl (by kernel_rfl) (by kernel_rfl) (by kernel_rfl) (by kernel_rfl) (fun _ _ _ h => h) (Or.inl ⟨by rfl, by intro W hW; have c0 := hW.c0; have c1 := hW.c1; clear hW; go_simp⟩) hHeld ?_
            simp only [put_laws]
            refine take_d [3, 6] 2 40 (.int .i64 z) rfl rfl (by kernel_rfl) (by kernel_rfl) (by kernel_rfl) (by kernel_rfl) (fun _ _ _ h => h) (Or.inl ⟨by rfl, by intro W hW; have hlk := hW.look HI.out.1 HI.out.2; clear hW; go_simp⟩) hHeld ?_
            simp only [put_laws]
            refine take_d [6] 3 41 (.int .i64 (z + 1)) rfl rfl (by kernel_rfl) (by kernel_rfl) (by kernel_rfl) (by kernel_rfl) (fun _ _ _ h => h) (Or.inl ⟨by rfl, by intro W hW; clear hW; go_simp⟩) hHeld ?_
            simp only [put_laws]
            refine anyZ_ready (rs := [4]) (by kernel_rfl) (by simp) ?_
            refine AllZ.cons rfl (fun K hK => ?_) AllZ.nil
            obtain ⟨v0, st, Wa, Wb, r1, m1, g1, r2, m2, g2⟩ := HM0.out.entry (by have := HKL.out; have := HL1.out; omega) HI.out.1 HI.out.2 (z + 1)
            refine step_entry rfl (.tmp 38) (.tmp 39) rfl w3.heap.size (pairV id x) _ rfl rfl r1 ?_
            have hDone := hHeld.ent m1 g1
            have hHeld := hDone
            clear hDone
            refine hK.out _ _ hHeld (fun hHeld => ?_)
            clear hK K
            refine take_d [6] 5 43 (.int .i64 st) rfl rfl (by kernel_rfl) (by kernel_rfl) (by kernel_rfl) (by kernel_rfl) (fun _ _ _ h => h) (Or.inl ⟨by rfl, by intro W hW; clear hW; go_simp⟩) hHeld ?_
            simp only [put_laws]
            refine anyZ_ready (rs := [6]) (by kernel_rfl) (by simp) ?_
            refine AllZ.last rfl rfl (fun K hK => ?_)
            refine step_estore rfl (.tmp 38) (.tmp 43) (.tmp 41) rfl w3.heap.size (.int .i64 st) (.int .i64 (z + 1)) rfl rfl rfl r2 ?_
            have HD := Lib.hid (hHeld.done g2)
            have HM2 := Lib.hid m2
            refine hK.out _ _ ?_
            clear hK K hHeld r1 r2 g1 g2 m1 m2 HM0
            try go_simp
            refine anyZ_done (by kernel_rfl) ?_ _
            refine NoPanic.normal ?_
            have e0 := HD.out.2.2.2
            go_wp2
            go_roundw
            case rel =>
              refine ⟨k + 1, _, R, HKL.out, by go_num, HM2.out, ?_, HR.out.mono, HD.out.1, HD.out.2.1, HD.out.2.2.1⟩
              have := HT.out.more HE.out
              dsimp only at this
              rw [HZ.out] at this
              exact this
            case measure => have := HKL.out; simp [intOf]; omega
          · have b2 : (kd == 2) = false := beq_eq_false_iff_ne.2 h2
            by_cases h1 : kd = 1
            · subst h1
              by_cases h3 : z = 0
              · have HZ0 := Lib.hid h3
                have hlk := HW.out.look HI.out.1 HI.out.2
                have b3 : (z == 0) = true := beq_iff_eq.2 h3
                have HAN := Lib.hid (Rn.At.new (E := Hi.encI) ((wr.alloc (.cells #[.int .i64 1, .int .i64 id, .int .i64 x, .int .i64 vk, .int .i64 vn] 53)).alloc (.cells #[.int .i64 id, .int .i64 x] 54)) (k : Int) #[.int .i64 (k : Nat)] rfl 3 (g := wr.heap.size + 2) (by simp))
                clear h3 h2 hlt
                go_wp2_with (at_builtin; refine Rp.append_rowG Hi.encI vtI rfl _ _ rfl rfl (HW.out.own.below (Rn.below_new _ _) (Nat.le_refl _)) _ _ [(k : Int)] rfl rfl HAN.out ?c1 ?c2 ?c3 ?_)
                case c1 => simp
                case c2 => have := HR.out.1; have := HL1.out; have := HKL.out; simp; omega
                case c3 => have := HW.out.le; simp at this ⊢; omega
                intro v7 W1 ho7 hg7 hs7
                have HW7 := Lib.hid (HW.out.app ho7 hg7 ⟨_, by simp, hs7⟩)
                clear ho7 hg7 hs7 hlk b3 HAN HW
                go_wp2
                have HW := HW7
                clear HW7
                have HM0 := Lib.hid HW.out.drew.map
                generalize wr.heap.size + 1 = q at HW ⊢
                generalize wr.heap.size = p at HW ⊢
                refine wp_region_noPanic ?_
                refine region_z 7 (fun W => KS w3 w3.heap.size (k + 1) f id x z _ _ q v7 (R ++ [(k : Int)]) W) 6 1000 rfl (by kernel_rfl) ((HW.out.more (Nat.le_succ k)).drew) (fun hHeld => ?_)
                refine take_d [2, 3, 4, 5, 6] 0 57 (.map (some w3.heap.size)) rfl rfl (by kernel_rfl) (by kernel_rfl) (by kernel_rfl) (by kernel_rfl) (fun _ _ _ h => h) (Or.inl ⟨by rfl, by intro W hW; clear hW; go_simp⟩) hHeld ?_
                simp only [put_laws]
                refine take_d [2, 3, 4, 5, 6] 1 58 (.agg #[.int .i64 id, .int .i64 x]) rfl rfl (by kernel_rfl) (by kernel_rfl) (by kernel_rfl) (by kernel_rfl) (fun _ _ _ h => h) (Or.inl ⟨by rfl, by intro W hW; have c0 := hW.c0; have c1 := hW.c1; clear hW; go_simp⟩) hHeld ?_
                simp only [put_laws]
                refine take_d [3, 6] 2 59 (.int .i64 z) rfl rfl (by kernel_rfl) (by kernel_rfl) (by kernel_rfl) (by kernel_rfl) (fun _ _ _ h => h) (Or.inl ⟨by rfl, by intro W hW; have hlk := hW.look HI.out.1 HI.out.2; clear hW; go_simp⟩) hHeld ?_
                simp only [put_laws]
                refine take_d [6] 3 60 (.int .i64 (z + 1)) rfl rfl (by kernel_rfl) (by kernel_rfl) (by kernel_rfl) (by kernel_rfl) (fun _ _ _ h => h) (Or.inl ⟨by rfl, by intro W hW; clear hW; go_simp⟩) hHeld ?_
                simp only [put_laws]
                refine anyZ_ready (rs := [4]) (by kernel_rfl) (by simp) ?_
                refine AllZ.cons rfl (fun K hK => ?_) AllZ.nil
                obtain ⟨v0, st, Wa, Wb, r1, m1, g1, r2, m2, g2⟩ := HM0.out.entry (by have := HKL.out; have := HL1.out; omega) HI.out.1 HI.out.2 (z + 1)
                refine step_entry rfl (.tmp 57) (.tmp 58) rfl w3.heap.size (pairV id x) _ rfl rfl r1 ?_
                have hDone := hHeld.ent m1 g1
                have hHeld := hDone
                clear hDone
                refine hK.out _ _ hHeld (fun hHeld => ?_)
                clear hK K
                refine take_d [6] 5 62 (.int .i64 st) rfl rfl (by kernel_rfl) (by kernel_rfl) (by kernel_rfl) (by kernel_rfl) (fun _ _ _ h => h) (Or.inl ⟨by rfl, by intro W hW; clear hW; go_simp⟩) hHeld ?_
                simp only [put_laws]
                refine anyZ_ready (rs := [6]) (by kernel_rfl) (by simp) ?_
                refine AllZ.last rfl rfl (fun K hK => ?_)
                refine step_estore rfl (.tmp 57) (.tmp 62) (.tmp 60) rfl w3.heap.size (.int .i64 st) (.int .i64 (z + 1)) rfl rfl rfl r2 ?_
                have HD := Lib.hid (hHeld.done g2)
                have HM2 := Lib.hid m2
                refine hK.out _ _ ?_
                clear hK K hHeld r1 r2 g1 g2 m1 m2 HM0
                try go_simp
                refine anyZ_done (by kernel_rfl) ?_ _
                refine NoPanic.normal ?_
                have e0 := HD.out.2.2.2
                go_wp2
                go_roundw
                case rel =>
                  refine ⟨k + 1, _, R ++ [(k : Int)], HKL.out, by go_num, HM2.out, ?_, HR.out.add HT.out HE.out rfl (HZ.out.trans HZ0.out), HD.out.1, HD.out.2.1, HD.out.2.2.1⟩
                  have := HT.out.more HE.out
                  dsimp only at this
                  rw [HZ.out] at this
                  exact this
                case measure => have := HKL.out; simp [intOf]; omega
              · have hlk := HW.out.look HI.out.1 HI.out.2
                have b3 : (z == 0) = false := beq_eq_false_iff_ne.2 h3
                have HZ0 := Lib.hid h3
                clear h3 h2 hlt
                go_wp2
                go_round
                case rel =>
                  have h := HW.out
                  exact ⟨k + 1, f, R, HKL.out, by go_num, h.map.mono (Nat.le_succ k), HT.out.stay HE.out (fun _ => by dsimp only; rw [HZ.out]; exact HZ0.out), HR.out.mono, h.own, h.bel, h.le⟩
                case measure => have := HKL.out; simp [intOf]; omega
            · have b1 : (kd == 1) = false := beq_eq_false_iff_ne.2 h1
              have HNK := Lib.hid (show ¬ (kd = 1 ∨ kd = 2) from by omega)
              clear h1 h2 hlt
              go_wp2
              go_round
              case rel =>
                have h := HW.out
                exact ⟨k + 1, f, R, HKL.out, by go_num, h.map.mono (Nat.le_succ k), HT.out.stay HE.out (fun c => absurd c HNK.out), HR.out.mono, h.own, h.bel, h.le⟩
              case measure => have := HKL.out; simp [intOf]; omega
        · have hlt' : ¬ (k : Int) < (L.length : Int) := by omega
          clear hlt HM HT
          rcases Nat.eq_zero_or_pos R.length with hz | hz
          · obtain ⟨A6, d6, rfl, _, _, _, _⟩ := HO.out.slice
            have b0 : ((R.length : Int) == 0) = true := beq_iff_eq.2 (by omega)
            clear hz
            go_wp2
            go_ret
            exact ⟨rfl, HB3.out.trans (HB.out.mono (Nat.le_trans HS3.out.2 HS3.out.1))⟩
          · obtain ⟨g6, d6, rfl, hg1, hg2, hg3, hg4⟩ := own_some HO.out hz
            have hR32 : (R.length : Int) ≤ 100 := by have := HR.out.1; omega
            have b0 : ((R.length : Int) == 0) = false := beq_eq_false_iff_ne.2 (by omega)
            obtain ⟨i, hi⟩ : ∃ i : Nat, i = a1 % R.length := ⟨_, rfl⟩
            have hil : i < R.length := by rw [hi]; exact Nat.mod_lt _ hz
            obtain ⟨r, hr⟩ : ∃ r, R[i]? = some r := ⟨_, List.getElem?_eq_getElem hil⟩
            have hcell := HO.out.get hr 0 (by decide)
            simp only [Nat.mul_one, Nat.add_zero] at hcell
            have hrem : Int.tmod ((a1 : Nat) : Int) (R.length : Int) = (i : Nat) := by
              rw [Int.tmod_eq_emod_of_nonneg (by omega), hi]
              exact (Int.natCast_emod a1 R.length).symm
            obtain ⟨j, e, hrj, hjk, hje, he1, hfst⟩ := HR.out.2 r (List.mem_of_getElem? hr)
            subst hrj
            have hjl : j < L.length := (List.getElem?_eq_some_iff.1 hje).1
            have hT := HT3.out.below HB.out (Nat.le_refl _)
            obtain ⟨g2, d3, hv2, hk1, hk2, hk3, hk4⟩ := own_some hT (by omega)
            obtain ⟨hB2, _, hd2⟩ := Value.slice.inj hv2
            subst hB2 hd2
            obtain ⟨nw, hnw⟩ : ∃ nw, IntKind.i64.wrap (e.n + 1099511627776) = nw := ⟨_, rfl⟩
            have hpo := HOK.out e (List.mem_of_getElem? hje)
            have HNW := Lib.hid (show nw ≠ e.n ∧ i64p nw from by rw [← hnw]; exact more_other hpo.2.2.2.2)
            have HF := Lib.hid (opq_read (n := nw) HL.out HQ.out hje he1 hfst HNW.out.1)
            have HPUT := Lib.hid (own_val hT hje 1 nw)
            have HTH := Lib.hid (show wr.there g2 (j * 5 + 3) (#[.int .i64 1, .int .i64 nw] : Array Value).size from HPUT.out.2.2)
            have hcv := hT.get hje 4 (by decide)
            have hcv' : wr.cell? ⟨g2, j * 5 + 4, none⟩ = some (.int .i64 e.n) := hcv
            have hcr : wr.cell? ⟨g6, i, none⟩ = some (.int .i64 (j : Nat)) := hcell
            have HOK2 := Lib.hid (show ∀ u ∈ L.set j ⟨e.kd, e.id, e.x, 1, nw⟩, u.ok from fun u hu => by
              rcases List.mem_or_eq_of_mem_set hu with hu | rfl
              · exact HOK.out u hu
              · exact ⟨hpo.1, hpo.2.1, hpo.2.2.1, show Tx.i64p 1 from ⟨by decide, by decide⟩, HNW.out.2⟩)
            have HGE := Lib.hid (show w.heap.size ≤ g2 from by have := HS3.out.2; omega)
            have HB4 := Lib.hid (HB3.out.trans (HB.out.mono (Nat.le_trans HS3.out.2 HS3.out.1)))
            have hlt2 : (i : Int) < (R.length : Int) := by omega
            have hj2 : (j : Int) < (L.length : Int) := by omega
            have hi0 : (0 : Int) ≤ (i : Int) := by omega
            have hj0 : (0 : Int) ≤ (j : Int) := by omega
            have hne0 : (R.length : Int) ≠ 0 := by omega
            clear hT hv2 hcv hcell hpo hje he1 hfst hr hil hi hjk hg1 hg2 hg3 hg4 hk1 hk2 hk3 hk4 hz hjl HT3 HAT3
            generalize e.n = en at *
            go_wp2_with (refine wpList_store_mid rfl 46 (.tmp 86) (.tmp 84) rfl g2 (j * 5 + 3) #[.int .i64 1, .int .i64 nw] rfl rfl HTH.out val_size' (val_one 1 nw) ?_; generalize World.setCells wr g2 (j * 5 + 3) _ = w7 at HPUT ⊢)
            have HO7 := Lib.hid HPUT.out.1
            have HB7 := Lib.hid (HB4.out.trans (HPUT.out.2.1.mono HGE.out))
            clear HPUT HTH
            have HA7 := Lib.hid (show Rn.At encE w7 (some ⟨g2, 0, none⟩) (L.set j ⟨e.kd, e.id, e.x, 1, nw⟩) from by
              obtain ⟨_, _, e, _, _, h3, _⟩ := HO7.out.slice
              rw [(Value.slice.inj e).1]; exact h3)
            have HOP := Lib.hid (opaque_any (some ⟨g2, 0, none⟩) d2 (L.set j ⟨e.kd, e.id, e.x, 1, nw⟩) w7 HA7.out HOK2.out (by rw [List.length_set]; exact HL.out))
            rw [List.length_set, HF.out] at HOP
            go_wp2_with fail
            refine HOP.out.mono ?_
            rintro r w8 ⟨rfl, hb8⟩
            have HB8 := Lib.hid (HB7.out.trans (hb8.mono HB7.out.size))
            clear hb8
            go_wp2
            go_ret
            exact ⟨rfl, HB8.out⟩
  · have hgt : (L.length : Int) > 100 := by omega
    have HX := Lib.hid hl
    clear hl
    go_enter Try.func5, Try.ntmps5
    go_wp2_with fail
    refine (jalive_any _).mono ?_
    rintro r w1 ⟨rfl, hb1⟩
    have HB1 := Lib.hid hb1
    clear hb1
    go_wp2
    go_ret
    exact ⟨rfl, HB1.out⟩
end Go.Proofs.Ytaonepbongbhoaa.Jd
