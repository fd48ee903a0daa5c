/-
  The walk of GraphTime.
-/
import Derived.Test.YtkghpecimjmjfaaGreatDoorGraphTime3
namespace Go.Proofs.YtkghpecimjmjfaaGreatDoor.En
open Go.RowKit
attribute [local go_sem ↓] Go.wp_at_zero Go.wp_at_succ
set_option maxHeartbeats 8000000 in
set_option maxRecDepth 100000 in
theorem graphTime_walk (s v : Nat) (A : Option Addr) (N c : Nat) (l : Nat → Act) (w : World) (hs : s < 256) (hv : v < 256) (hl : ActsAt w A N c l) (hT : TabAt w) :
    Calls Tryz.prog 5 #[.int .u8 (s : Nat), .int .u8 (v : Nat), .slice A N c] w fun e w' => e = .returned (.bool true) ∧ Below w.heap.size w w' := by
  have HT := Lib.hid hT
  have HL := Lib.hid hl
  have hn : (N : Int) ≤ 9223372036854775807 := by have := hl.1; have := hl.2.1; unfold maxLen at this; omega
  have hz := (zero_of_info gact_info).1
  have hz2 := (zero_of_info rval_info).1
  have hr1 : (s : Int).tmod 32 = ((s % 32 : Nat) : Int) := u8_rem s 32 (by decide)
  have hr2 : (v : Int).tmod 9 = ((v % 9 : Nat) : Int) := u8_rem v 9 (by decide)
  have hm1 : s % 32 < 32 := Nat.mod_lt _ (by decide)
  have hm2 : v % 9 < 9 := Nat.mod_lt _ (by decide)
  clear hT hl
  generalize s % 32 = r1 at *
  generalize v % 9 = r2 at *
  go_enter Tryz.func5, Tryz.ntmps5
  go_wp2_with fail
  refine (alive_any w HT.out).mono ?_
  rintro e w1 ⟨rfl, hb1⟩
  have B1 := Lib.hid hb1
  clear hb1
  by_cases hbig : 150 < N
  · have hbig' : (150 : Int) < (N : Int) := by omega
    go_wp2
    go_ret
    exact ⟨rfl, B1.out⟩
  have hbig' : ¬ (150 : Int) < (N : Int) := by omega
  have hN150 : N ≤ 150 := by omega
  go_wp2_with fail
  refine (new_liveI (1 + (r1 : Nat)) (1 + (r2 : Nat)) w1 ⟨by omega, by omega⟩ ⟨by omega, by omega⟩).mono ?_
  rintro e w2 ⟨b, rfl, hl2⟩
  have H2 := Lib.hid (Live.since B1.out hl2)
  have HOK := Lib.hid (show ∀ i, i < N → (l i).ok from fun i hi => (HL.out.at_ hi).choose_spec.2.1)
  have HW2 := Lib.hid (show w.heap.size ≤ w2.heap.size from H2.out.bel.size)
  have HE4 := Lib.hid ((tmap_made w2).below (Tx.below_new _ (.map #[] 0)))
  have HB4 := Lib.hid (tmap_made (w2.alloc (.map #[] 0)))
  have HL4 := Lib.hid (show Live w (PM w2.heap.size (w2.heap.size + 1)) b 0 0 (new (1 + ((r1 : Nat) : Int)) (1 + ((r2 : Nat) : Int))) ((w2.alloc (.map #[] 0)).alloc (.map #[] 0)) from
    H2.out.own ((Tx.below_new w2 (.map #[] 0)).trans ((Tx.below_new _ (.map #[] 0)).mono (Tx.below_new w2 (.map #[] 0)).size)) (fun q hq => .inr (by rw [Tx.size_new, Tx.size_new]; rcases hq with rfl | rfl <;> omega)))
  rw [Tx.size_new] at HB4
  clear hl2
  have hmmk := @run_makeMap Tryz.prog
  go_wp2
  clear hmmk
  generalize (w2.alloc (.map #[] 0)).alloc (.map #[] 0) = w4 at *
  generalize w2.heap.size = m1 at *
  generalize hmm : m1 + 1 = m2 at *
  have HMM := Lib.hid (show m2 ≠ m1 by omega)
  have HW3 := Lib.hid (show w.heap.size ≤ m2 by have := HW2.out; omega)
  clear hmm
  go_loopw [42] (TiRel w (1 + ((r1 : Nat) : Int)) (1 + ((r2 : Nat) : Int)) l N b m1 m2) (fun i _ => N - (intOf i).toNat)
  case atStart => exact ⟨0, fun _ => 0, fun _ => 0, 0, Nat.zero_le _, rfl, HL4.out, new_tm, by rw [cnt_zero]; exact HE4.out, HB4.out⟩
  case round =>
    obtain ⟨k, bg, en, sz, hk, rfl, hst, htm, hme, hmb⟩ := hrel
    have HS := Lib.hid hst
    have HTM := Lib.hid htm
    have HME := Lib.hid hme
    have HMB := Lib.hid hmb
    clear hst htm hme hmb
    by_cases hlt : k < N
    · obtain ⟨ad, rfl, hok, hkd, ha⟩ := HL.out.at_ hlt
      generalize hx : l k = x at *
      generalize hgg : runE (1 + ((r1 : Nat) : Int)) (1 + ((r2 : Nat) : Int)) l k = g at *
      have HX := Lib.hid hx
      have HGG := Lib.hid hgg
      have HA := Lib.hid hok
      have HAT := Lib.hid (ha.below HS.out.bel (Nat.le_refl _))
      have c0 := HAT.out.c0
      have c1 := HAT.out.c1
      have c2 := HAT.out.c2
      have c3 := HAT.out.c3
      have c4 := HAT.out.c4
      have hlt' : (k : Int) < (N : Int) := by omega
      have HS4 := Lib.hid (HS.out.below (Tx.below_new wr (.cells (actA x) 45)))
      have HE5 := Lib.hid (HME.out.below (Tx.below_new wr (.cells (actA x) 45)))
      have HB5 := Lib.hid (HMB.out.below (Tx.below_new wr (.cells (actA x) 45)))
      unfold actA at HS4 HE5 HB5
      clear hx hok hkd ha HAT hgg
      go_wp2_with fail
      refine (does_any HS4.out (by omega) (by omega) HT.out HA.out).mono ?_
      rintro e w5 ⟨rfl, hl5, hs5⟩
      have HI := Lib.hid hl5.inv
      have HTW := Lib.hid (act_tw HS.out.inv HTM.out x)
      have HAB := Lib.hid (act_begins HS.out.inv x)
      have HNX := Lib.hid (show (act g x).1 = runE (1 + ((r1 : Nat) : Int)) (1 + ((r2 : Nat) : Int)) l (k + 1) by rw [← HGG.out]; exact (runE_next HX.out).symm)
      have H6 := Lib.hid (hl5.below (Tx.below_new w5 (.cells #[.int .i64 (act g x).2.1.1, .int .i64 (act g x).2.1.2] 43)))
      have HE6 := Lib.hid ((HE5.out.other (hs5.block _ (.inl rfl))).below (Tx.below_new w5 (.cells #[.int .i64 (act g x).2.1.1, .int .i64 (act g x).2.1.2] 43)))
      have HB6 := Lib.hid ((HB5.out.other (hs5.block _ (.inr rfl))).below (Tx.below_new w5 (.cells #[.int .i64 (act g x).2.1.1, .int .i64 (act g x).2.1.2] 43)))
      have HBP := Lib.hid HTM.out.tw.bpos
      have HCT := Lib.hid (show 0 ≤ g.p.count ∧ g.p.count ≤ (k : Nat) from ⟨HS.out.inv.ps.count, HS.out.inv.cnt⟩)
      clear hl5 hs5 HS4 HE5 HB5 HS HTM HME HMB HGG HX c0 c1 c2 c3 c4
      generalize hbw : bgs bg k (act g x).2.2.1 (act g x).2.2.2 = bg' at *
      generalize (act g x).1 = g' at *
      generalize (act g x).2.2.1 = id at *
      generalize (act g x).2.2.2 = e at *
      generalize (act g x).2.1.1 = u1 at *
      generalize (act g x).2.1.2 = u2 at *
      have HBW := Lib.hid hbw
      clear hbw
      by_cases hid : 0 < id
      case' neg =>
        have hneg : ¬ (0 < id ∧ e = 0) := fun h => hid h.1
        have H7 := H6
        have HE7 := HE6
        have HB7 := Lib.hid (show TMap (w5.alloc (.cells #[.int .i64 u1, .int .i64 u2] 43)) m2 (k + 1) g'.p.count.toNat bg' from by
          have h1 := HAB.out.2 hneg
          have h4 : bg' = bg := by rw [← HBW.out]; unfold bgs; rw [if_neg hneg]
          rw [h1, h4]; exact HB6.out.mono (Nat.le_succ k))
        clear hneg H6 HE6 HB6 HAB HBW HBP HCT
        go_wp2_with fail
        generalize w5.alloc (.cells #[.int .i64 u1, .int .i64 u2] 43) = w7 at *
      case' pos =>
        by_cases hee : e = 0
        case' pos =>
          have hci := HAB.out.1 ⟨hid, hee⟩
          have HC1 := Lib.hid hci.1
          have HC2 := Lib.hid hci.2
          subst hee
          have HID := Lib.hid (show St.i64p id from by have := HCT.out; have := HC1.out; constructor <;> omega)
          clear hci
          go_wp2_with (refine Tx.wpList_putM rfl _ _ _ 73 3 rfl Tryz.underlying73 m2 k g.p.count.toNat (.int .i64 0) (mapF bg) rfl HB6.out (by omega) id (.int .i64 ((k + 1 : Nat) : Int)) rfl (by go_num) HID.out ?_; intro w7 hm7 hg7)
          obtain ⟨es2, ck2, ho2⟩ := HB6.out.obj
          have h7b0 := kp_grown hg7
          have H7 := Lib.hid (H6.out.dry (.inr rfl) HW3.out (dry_map ho2) h7b0)
          have HE7 := Lib.hid (HE6.out.other (h7b0.block m1 HE6.out.lt (fun e => HMM.out e.symm)))
          have HB7 := Lib.hid (show TMap w7 m2 (k + 1) g'.p.count.toNat bg' from by
            have h1 := TMap.put (Nat.succ_pos k) hm7
            have h2 : bg id = 0 := by
              rcases Nat.eq_zero_or_pos (bg id) with h | h
              · exact h
              · have := (HBP.out id).1 h; have := HC1.out; omega
            rw [mapF_some, h2] at h1
            have h3 : g'.p.count.toNat = g.p.count.toNat + 1 := by have := HC2.out; have := HCT.out; omega
            have h4 : bg' = fu bg id (k + 1) := by rw [← HBW.out]; unfold bgs; rw [if_pos ⟨hid, rfl⟩]
            rw [h3, h4]
            simpa using h1)
          clear hm7 hg7 h7b0 ho2 H6 HE6 HB6 HAB HBW HBP HCT
          go_wp2_with fail
        case' neg =>
          have hneg : ¬ (0 < id ∧ e = 0) := fun h => hee h.2
          have H7 := H6
          have HE7 := HE6
          have HB7 := Lib.hid (show TMap (w5.alloc (.cells #[.int .i64 u1, .int .i64 u2] 43)) m2 (k + 1) g'.p.count.toNat bg' from by
            have h1 := HAB.out.2 hneg
            have h4 : bg' = bg := by rw [← HBW.out]; unfold bgs; rw [if_neg hneg]
            rw [h1, h4]; exact HB6.out.mono (Nat.le_succ k))
          clear hneg H6 HE6 HB6 HAB HBW HBP HCT
          go_wp2_with fail
          generalize w5.alloc (.cells #[.int .i64 u1, .int .i64 u2] 43) = w7 at *
      all_goals
        refine (log_live H7.out (by omega)).mono ?_
        rintro e5 w8 ⟨v8, rfl, ht8, hb8⟩
        obtain ⟨X5, ho5, hX5, he5⟩ := ht8.ex
        have HO5 := Lib.hid ho5
        have HX5 := Lib.hid hX5
        have HF5 := Lib.hid he5
        have HB8 := Lib.hid hb8
        have H8 := Lib.hid (H7.out.below hb8)
        have HBS := Lib.hid hb8.size
        have HME7 := HE7
        clear ht8 ho5 hX5 he5 hb8
        go_wp2_with fail
        refine (rest_live H8.out (by omega) HT.out).mono ?_
        rintro e6 w9 ⟨v9, rfl, ht9, hb9⟩
        obtain ⟨X6, ho6, hX6, he6⟩ := ht9.ex
        obtain ⟨A6, c6, rfl, hx6, _⟩ := ho6.slice
        have HX6 := Lib.hid hX6
        have HF6 := Lib.hid he6
        have HB9 := Lib.hid hb9
        have HXS6 := Lib.hid hx6
        have HO56 := Lib.hid (HO5.out.below hb9 (Nat.le_refl _))
        have HXL := Lib.hid (show X5.length + X6.length ≤ 150 from by
          have h1 := HI.out.log
          have h2 := HI.out.cnt
          have h3 := rest_len HI.out.ps
          have h4 := congrArg List.length HX5.out
          have h5 := congrArg List.length hX6
          rw [List.length_map] at h4 h5
          omega)
        clear ht9 ho6 hX6 he6 hb9 hx6
        go_wp2_with (at_builtin; refine append_ents rfl _ _ rfl rfl HO56.out _ _ X6 rfl rfl HXS6.out (flatE_one HF6.out) ?c1 ?c2 ?_)
        case c1 => have := HXL.out; omega
        case c2 => have h1 := HB8.out.size; have h2 := HB9.out.size; omega
        intro vX wX hoX hgX
        have HALL := Lib.hid (all_of (F := fun q => (Value.slice A6 X6.length c6).ownBlock = some q) HO5.out HX5.out HF5.out HB9.out HX6.out HF6.out HBS.out hoX hgX)
        have HBC := Lib.hid (grown_below HO56.out hgX (Nat.le_trans HB8.out.size HB9.out.size))
        have HBT := Lib.hid ((HB8.out.trans (HB9.out.mono HB8.out.size)).trans HBC.out)
        have HTS := Lib.hid (show TSt w wX b m1 m2 k g' en bg' wX from ⟨H7.out.below HBT.out, ⟨sz, HE7.out.below HBT.out⟩, HB7.out.below HBT.out, Kp.refl _ _⟩)
        have HLT := Lib.hid (show m1 < w7.heap.size from HE7.out.lt)
        have HEN := Lib.hid (ends_tm HI.out HTW.out (enL_ends (Nat.succ_pos k) g' en))
        have HIDS := Lib.hid (fun x => all_ids HI.out (x := x))
        have HCK := Lib.hid (show g'.p.count ≤ 150 by have := HI.out.cnt; omega)
        have HMAP := Lib.hid HALL.out.map
        have HXL7 := Lib.hid (show (X5 ++ X6).length ≤ 150 by rw [List.length_append]; exact HXL.out)
        clear hoX hgX HO5 HX5 HF5 HB8 HBS HME7 HX6 HF6 HB9 HXS6 HO56 HXL H7 HE7 HB7 H8 HBC HBT
        generalize X5 ++ X6 = X at *
        generalize g'.log ++ rest g' = E at *
        have HEL := Lib.hid (show X.length = E.length by rw [← HMAP.out, List.length_map])
        obtain ⟨A7, c7, rfl, _, _⟩ := HALL.out.own.slice
        generalize w7.heap.size = bs at *
        go_wp2
        have hxl7 := HXL7.out
        go_loopw [70] (TkRel w wX b m1 m2 k g' E en bg') (fun i _ => 1000 - (intOf i).toNat)
        case atStart => exact ⟨0, Nat.zero_le _, rfl, by rw [List.take_zero]; exact HTS.out⟩
        case round =>
          obtain ⟨j, hj, rfl, hst⟩ := hrel
          have HST := Lib.hid hst
          clear hst
          by_cases hltj : j < X.length
          · have hx := List.getElem?_eq_getElem hltj
            have hmem := List.getElem_mem hltj
            generalize X[j] = y at hx hmem
            have hEj : E[j]? = some y.1 := by rw [← HMAP.out, List.getElem?_map, hx]; rfl
            have HSN := Lib.hid (enL_snoc (k := k + 1) (en := en) hEj)
            have HYI := Lib.hid (HIDS.out _ (List.mem_of_getElem? hEj))
            generalize enL (k + 1) en (E.take j) = f at *
            obtain ⟨q, cq, hq, x0, x1, x2, x3, x4⟩ := all_cell HALL.out HLT.out HST.out.kp hx
            obtain ⟨hqA, hq1, hq2⟩ := Value.slice.inj hq
            obtain ⟨⟨A1, d1, e3, _⟩, ⟨A2, d2, e4, _⟩⟩ := HALL.out.ent _ hmem
            subst hqA
            obtain ⟨y, a3, a4⟩ := y
            dsimp only at x0 x1 x2 x3 x4 e3 e4 HSN HYI
            subst e3; subst e4
            have hltj' : (j : Int) < (X.length : Int) := by omega
            clear hx hmem hEj hq hq1 hq2
            have HYO := Lib.hid (show St.i64p y.id from by have := HYI.out; have := HCK.out; constructor <;> omega)
            have HYM := Lib.hid (show m1 ≠ wr.heap.size from by have := HLT.out; have := HST.out.kp.size; have := HTS.out.me; obtain ⟨_, h⟩ := HST.out.me; have := h.lt; omega)
            have hcn := cnt_le f 200
            by_cases ho : y.ovr = true
            · rw [ho] at x2
              have HSX := Lib.hid (HST.out.below (Tx.below_new wr (.cells #[.int .i64 y.id, .bool y.com, .bool true, .slice A1 y.rd.length d1, .slice A2 y.wr.length d2] 69)))
              obtain ⟨sz2, hme2⟩ := HSX.out.me
              have HE8 := Lib.hid hme2
              have hlook := hme2.look HYO.out
              clear hme2
              by_cases hf : f y.id = 0
              · have HFN := Lib.hid (show enL (k + 1) en (E.take (j + 1)) = fu f y.id (k + 1) from by rw [HSN.out]; unfold enS; rw [if_pos ⟨ho, hf⟩])
                have HF0 := Lib.hid hf
                rw [hf] at hlook
                clear ho hf
                go_wp2_with (refine Tx.wpList_putM rfl _ _ _ 73 3 rfl Tryz.underlying73 m1 (cnt f 200) sz2 (.int .i64 0) (mapF f) rfl HE8.out (by omega) y.id (.int .i64 ((k + 1 : Nat) : Int)) rfl (by go_num) HYO.out ?_; intro wY hmY hgY)
                have HSY := Lib.hid (HSX.out.put HW2.out HMM.out HF0.out ⟨HYI.out.1, by have := HYI.out.2; have := HCK.out; omega⟩ rfl hmY hgY)
                clear hmY hgY
                go_wp2
                exact ⟨⟨j + 1, by have := HEL.out; omega, by go_num, by rw [HFN.out]; exact HSY.out⟩, by simp [intOf]; omega⟩
              · have HFN := Lib.hid (show enL (k + 1) en (E.take (j + 1)) = f from by rw [HSN.out]; unfold enS; rw [if_neg (fun h => hf h.2)])
                clear ho
                go_wp2
                exact ⟨⟨j + 1, by have := HEL.out; omega, by go_num, by rw [HFN.out]; exact HSX.out⟩, by simp [intOf]; omega⟩
            · have HFN := Lib.hid (show enL (k + 1) en (E.take (j + 1)) = f from by rw [HSN.out]; unfold enS; rw [if_neg (fun h => ho h.1)])
              have ho' : y.ovr = false := by simpa using ho
              rw [ho'] at x2
              have HSX := Lib.hid (HST.out.below (Tx.below_new wr (.cells #[.int .i64 y.id, .bool y.com, .bool false, .slice A1 y.rd.length d1, .slice A2 y.wr.length d2] 69)))
              clear ho ho'
              go_wp2
              exact ⟨⟨j + 1, by have := HEL.out; omega, by go_num, by rw [HFN.out]; exact HSX.out⟩, by simp [intOf]; omega⟩
          · have hje : j = E.length := by have := HEL.out; omega
            have HST5 := Lib.hid (show TSt w wX b m1 m2 k g' (enL (k + 1) en E) bg' wr by have := HST.out; rw [hje, List.take_length] at this; exact this)
            have hltj' : ¬ ((j : Int) < (X.length : Int)) := by omega
            clear hje HST
            go_wp2
            go_round
            case rel =>
              obtain ⟨sz5, hm5⟩ := HST5.out.me
              refine ⟨k + 1, bg', enL (k + 1) en E, sz5, by omega, by go_num, ?_, ?_, hm5, ?_⟩
              · rw [← HNX.out]; exact HST5.out.lv.mono (Nat.le_refl _) (by omega)
              · rw [← HNX.out]; exact HEN.out
              · rw [← HNX.out]; exact HST5.out.mb
            case measure => simp [intOf]; omega
    · obtain rfl : k = N := by omega
      have HI := Lib.hid HS.out.inv
      have HFIN := Lib.hid (HTM.out.fin HI.out)
      have HIDS := Lib.hid (fun x => all_ids HI.out (x := x))
      generalize runE (1 + ((r1 : Nat) : Int)) (1 + ((r2 : Nat) : Int)) l k = g at *
      clear HTM
      go_wp2_with fail
      refine (log_live HS.out (by omega)).mono ?_
      rintro e5 w8 ⟨v8, rfl, ht8, hb8⟩
      obtain ⟨X5, ho5, hX5, he5⟩ := ht8.ex
      have HO5 := Lib.hid ho5
      have HX5 := Lib.hid hX5
      have HF5 := Lib.hid he5
      have HB8 := Lib.hid hb8
      have H8 := Lib.hid (HS.out.below hb8)
      have HBS := Lib.hid hb8.size
      clear ht8 ho5 hX5 he5 hb8
      go_wp2_with fail
      refine (rest_live H8.out (by omega) HT.out).mono ?_
      rintro e6 w9 ⟨v9, rfl, ht9, hb9⟩
      obtain ⟨X6, ho6, hX6, he6⟩ := ht9.ex
      obtain ⟨A6, c6, rfl, hx6, _⟩ := ho6.slice
      have HX6 := Lib.hid hX6
      have HF6 := Lib.hid he6
      have HB9 := Lib.hid hb9
      have HXS6 := Lib.hid hx6
      have HO56 := Lib.hid (HO5.out.below hb9 (Nat.le_refl _))
      have HXL := Lib.hid (show X5.length + X6.length ≤ 150 from by
        have h1 := HI.out.log
        have h2 := HI.out.cnt
        have h3 := rest_len HI.out.ps
        have h4 := congrArg List.length HX5.out
        have h5 := congrArg List.length hX6
        rw [List.length_map] at h4 h5
        omega)
      clear ht9 ho6 hX6 he6 hb9 hx6
      go_wp2_with (at_builtin; refine append_ents rfl _ _ rfl rfl HO56.out _ _ X6 rfl rfl HXS6.out (flatE_one HF6.out) ?d1 ?d2 ?_)
      case d1 => have := HXL.out; omega
      case d2 => have h1 := HB8.out.size; have h2 := HB9.out.size; omega
      intro vX wX hoX hgX
      have HALL := Lib.hid (all_of (F := fun q => (Value.slice A6 X6.length c6).ownBlock = some q) HO5.out HX5.out HF5.out HB9.out HX6.out HF6.out HBS.out hoX hgX)
      have HBC := Lib.hid (grown_below HO56.out hgX (Nat.le_trans HB8.out.size HB9.out.size))
      have HBT := Lib.hid ((HB8.out.trans (HB9.out.mono HB8.out.size)).trans HBC.out)
      have HLT := Lib.hid (show m1 < wr.heap.size from HME.out.lt)
      have HXL7 := Lib.hid (show (X5 ++ X6).length ≤ 150 by rw [List.length_append]; exact HXL.out)
      have HEX := Lib.hid (HME.out.below HBT.out)
      have HBX := Lib.hid (show TMap wX m2 k (X5 ++ X6).length bg from by
        have h1 := HMB.out.below HBT.out
        have h2 := HALL.out.len HI.out
        have h3 : g.p.count.toNat = (X5 ++ X6).length := by omega
        rw [h3] at h1; exact h1)
      have HBW := Lib.hid (HS.out.bel.trans (HBT.out.mono HS.out.bel.size))
      clear hoX hgX HO5 HX5 HF5 HB8 HBS HX6 HF6 HB9 HXS6 HO56 HXL HS H8 HME HMB HBC HBT
      have HMAP := Lib.hid HALL.out.map
      generalize X5 ++ X6 = X at *
      generalize g.log ++ rest g = E at *
      have HPW := Lib.hid (show ∀ (z j : Nat) (y x : Xe), z < j → X[z]? = some y → X[j]? = some x → x.1.id ≠ y.1.id ∧ ¬ (0 < en x.1.id ∧ en x.1.id < bg y.1.id) from fun z j y x hzj hy hx => by
        have h1 := HFIN.out
        rw [← HMAP.out, List.pairwise_map, List.pairwise_iff_getElem] at h1
        obtain ⟨hz1, rfl⟩ := List.getElem?_eq_some_iff.1 hy
        obtain ⟨hj1, rfl⟩ := List.getElem?_eq_some_iff.1 hx
        exact h1 z j hz1 hj1 hzj)
      have HXI := Lib.hid (show ∀ x ∈ X, St.i64p x.1.id from fun x hx => by
        have h1 : x.1 ∈ E := by rw [← HMAP.out]; exact List.mem_map.2 ⟨x, hx, rfl⟩
        have h2 := HIDS.out _ h1
        have h3 := HI.out.cnt
        constructor <;> omega)
      clear HFIN HIDS
      obtain ⟨A7, c7, rfl, _, _⟩ := HALL.out.own.slice
      have HCAP := Lib.hid (HALL.out.own.cap)
      generalize wr.heap.size = bs at *
      have hlen := HBX.out.len 3
      have hxl7 := HXL7.out
      go_wp2
      clear hlen
      go_loopw [102] (Ta1Rel X.length wX) (fun i _ => 1000 - (intOf i).toNat)
      case atStart => exact ⟨0, Nat.zero_le _, rfl, Below.refl _ _⟩
      case round =>
        obtain ⟨j, hj, rfl, hbl⟩ := hrel
        have HBL := Lib.hid hbl
        clear hbl
        by_cases hltj : j < X.length
        · have hx := List.getElem?_eq_getElem hltj
          have hmem := List.getElem_mem hltj
          generalize X[j] = x at hx hmem
          have HXJ := Lib.hid hx
          obtain ⟨q, cq, hq, x0, x1, x2, x3, x4⟩ := all_cell HALL.out HLT.out ((Kp.of_below HBL.out : Kp (fun q => q = m1) wX wr)) hx
          obtain ⟨hqA, hq1, hq2⟩ := Value.slice.inj hq
          obtain ⟨⟨A1, d1, e3, _⟩, ⟨A2, d2, e4, _⟩⟩ := HALL.out.ent _ hmem
          have HXO := Lib.hid (HXI.out _ hmem)
          subst hqA
          obtain ⟨x, a3, a4⟩ := x
          dsimp only at x0 x1 x2 x3 x4 e3 e4 HXO
          subst e3; subst e4
          have hltj' : (j : Int) < (X.length : Int) := by omega
          clear hx hmem hq hq1 hq2
          have HBA := Lib.hid (Tx.Blk.new wr #[.int .i64 x.id, .bool x.com, .bool x.ovr, .slice A1 x.rd.length d1, .slice A2 x.wr.length d2] 69)
          have HBLA := Lib.hid (HBL.out.trans ((Tx.below_new wr (.cells #[.int .i64 x.id, .bool x.com, .bool x.ovr, .slice A1 x.rd.length d1, .slice A2 x.wr.length d2] 69)).mono HBL.out.size))
          have hjc : j ≤ c7 := by have := HCAP.out; omega
          go_wp2
          generalize wr.alloc (.cells #[.int .i64 x.id, .bool x.com, .bool x.ovr, .slice A1 x.rd.length d1, .slice A2 x.wr.length d2] 69) = wA at *
          generalize wr.heap.size = yb at *
          clear x0 x1 x2 x3 x4
          go_loopw [111] (Ta1Rel j wA) (fun i _ => 1000 - (intOf i).toNat)
          case atStart => exact ⟨0, Nat.zero_le _, rfl, Below.refl _ _⟩
          case round =>
            obtain ⟨z, hz, rfl, hbl⟩ := hrel
            have HBZ := Lib.hid hbl
            clear hbl
            by_cases hltz : z < j
            · have hzl : z < X.length := by omega
              have hy := List.getElem?_eq_getElem hzl
              have hmem := List.getElem_mem hzl
              generalize X[z] = y at hy hmem
              have HP := Lib.hid (HPW.out z j y _ hltz hy HXJ.out)
              obtain ⟨q', cq, hq, x0, x1, x2, x3, x4⟩ := all_cell HALL.out HLT.out ((Kp.of_below (HBLA.out.trans (HBZ.out.mono HBLA.out.size)) : Kp (fun q => q = m1) wX wr)) hy
              obtain ⟨hqA, hq1, hq2⟩ := Value.slice.inj hq
              obtain ⟨⟨A3, d3, e3, _⟩, ⟨A4, d4, e4, _⟩⟩ := HALL.out.ent _ hmem
              have HYO := Lib.hid (HXI.out _ hmem)
              injection hqA with hqA
              injection hqA with hqA
              subst hqA
              obtain ⟨y, a3, a4⟩ := y
              dsimp only at x0 x1 x2 x3 x4 e3 e4 HYO HP
              subst e3; subst e4
              have hltz' : (z : Int) < (j : Int) := by omega
              clear hy hmem hq hq1 hq2
              have HBY := Lib.hid (HBZ.out.trans ((Tx.below_new wr (.cells #[.int .i64 y.id, .bool y.com, .bool y.ovr, .slice A3 y.rd.length d3, .slice A4 y.wr.length d4] 69)).mono HBZ.out.size))
              have HBYX := Lib.hid (HBLA.out.trans (HBY.out.mono HBLA.out.size))
              have z0 := (HBA.out.below HBY.out).cell 0
              simp only [List.getElem?_toArray, List.getElem?_cons_zero] at z0
              have l1 := (HEX.out.below HBYX.out).look HXO.out
              have l2 := (HBX.out.below HBYX.out).look HYO.out
              have hne : ¬ x.id = y.id := HP.out.1
              by_cases hf : en x.id = 0
              · rw [hf] at l1
                clear hf
                go_wp2
                exact ⟨⟨z + 1, by omega, by go_num, HBY.out⟩, by simp [intOf]; omega⟩
              · have hpos : 0 < en x.id := by omega
                have hlt2 : ¬ en x.id < bg y.id := fun h => HP.out.2 ⟨hpos, h⟩
                go_wp2
                exact ⟨⟨z + 1, by omega, by go_num, HBY.out⟩, by simp [intOf]; omega⟩
            · have hze : z = j := by omega
              have HB2 := Lib.hid (HBLA.out.trans (HBZ.out.mono HBLA.out.size))
              have hltz' : ¬ ((z : Int) < (j : Int)) := by omega
              go_wp2
              go_round
              case rel => exact ⟨j + 1, by omega, by go_num, HB2.out⟩
              case measure => simp [intOf]; omega
        · go_wp2
          go_ret
          exact ⟨rfl, HBW.out.trans (HBL.out.mono HBW.out.size)⟩
end Go.Proofs.YtkghpecimjmjfaaGreatDoor.En
