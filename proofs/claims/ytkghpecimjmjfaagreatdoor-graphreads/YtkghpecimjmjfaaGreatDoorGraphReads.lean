/-
  The walk of GraphReads.
-/
import Derived.Test.YtkghpecimjmjfaaGreatDoorGraphKmap
import Derived.Laws.StructEq
namespace Go.Proofs.YtkghpecimjmjfaaGreatDoor.En
open Go.RowKit
attribute [local go_sem ↓] Go.wp_at_zero Go.wp_at_succ
def ReRel (w : World) (n v : Int) (l : Nat → Act) (N b : Nat) (v8 i : Value) (wr : World) : Prop :=
  ∃ (k m : Nat) (f : Kf), k ≤ N ∧ i = .int .i64 k ∧ v8 = .map (some m) ∧ w.heap.size ≤ m ∧ Live w (fun q => q = m) b k (k : Nat) (runE n v l k) wr ∧ MapK wr m k f ∧ Kn (runE n v l k) f
theorem kn_none (g : Eng) : Kn g (fun _ _ => none) := fun _ _ _ h => by cases h
set_option maxHeartbeats 8000000 in
set_option maxRecDepth 100000 in
theorem graphReads_walk (s v : Nat) (A : Option Addr) (N c : Nat) (l : Nat → Act) (w : World) (hs : s < 256) (hv : v < 256) (hl : ActsAt w A N c l) (hT : TabAt w) :
    Calls Tryz.prog 9 #[.int .u8 (s : Nat), .int .u8 (v : Nat), .slice A N c] w fun e w' => e = .returned (.bool true) ∧ Below w.heap.size w w' := by
  have HT := Lib.hid hT
  have HL := Lib.hid hl
  have hn : (N : Int) ≤ 9223372036854775807 := by have := hl.1; have := hl.2.1; unfold maxLen at this; omega
  have hz := (zero_of_info gact_info).1
  have hz2 := (zero_of_info rval_info).1
  have hr1 : (s : Int).tmod 32 = ((s % 32 : Nat) : Int) := u8_rem s 32 (by decide)
  have hr2 : (v : Int).tmod 9 = ((v % 9 : Nat) : Int) := u8_rem v 9 (by decide)
  have hm1 : s % 32 < 32 := Nat.mod_lt _ (by decide)
  have hm2 : v % 9 < 9 := Nat.mod_lt _ (by decide)
  clear hT hl
  generalize s % 32 = r1 at *
  generalize v % 9 = r2 at *
  go_enter Tryz.func9, Tryz.ntmps9
  go_wp2_with fail
  refine (alive_any w HT.out).mono ?_
  rintro e w1 ⟨rfl, hb1⟩
  have B1 := Lib.hid hb1
  clear hb1
  by_cases hbig : 150 < N
  · have hbig' : (150 : Int) < (N : Int) := by omega
    go_wp2
    go_ret
    exact ⟨rfl, B1.out⟩
  have hbig' : ¬ (150 : Int) < (N : Int) := by omega
  have hN150 : N ≤ 150 := by omega
  go_wp2_with fail
  refine (new_liveI (1 + (r1 : Nat)) (1 + (r2 : Nat)) w1 ⟨by omega, by omega⟩ ⟨by omega, by omega⟩).mono ?_
  rintro e w2 ⟨b, rfl, hl2⟩
  have H2 := Lib.hid (Live.since B1.out hl2)
  have HW2 := Lib.hid (show w.heap.size ≤ w2.heap.size from H2.out.bel.size)
  have HM3 := Lib.hid (mapK_made w2)
  have HL3 := Lib.hid (show Live w (fun q => q = w2.heap.size) b 0 0 (new (1 + ((r1 : Nat) : Int)) (1 + ((r2 : Nat) : Int))) (w2.alloc (.map #[] 0)) from
    H2.out.own (Tx.below_new w2 (.map #[] 0)) (fun q hq => .inr (by rw [Tx.size_new, hq]; omega)))
  clear hl2
  have hmmk := @run_makeMap Tryz.prog
  go_wp2
  generalize w2.alloc (.map #[] 0) = w3 at *
  generalize w2.heap.size = m0 at *
  go_loopw [8, 37] (ReRel w (1 + ((r1 : Nat) : Int)) (1 + ((r2 : Nat) : Int)) l N b) (fun _ i _ => N - (intOf i).toNat)
  case atStart => exact ⟨0, m0, fun _ _ => none, Nat.zero_le _, rfl, rfl, HW2.out, HL3.out, HM3.out, kn_none _⟩
  case round =>
    obtain ⟨k, m, f, hk, rfl, rfl, hwm, hst, hmk, hkn⟩ := hrel
    have HS := Lib.hid hst
    have HMK := Lib.hid hmk
    have HKN := Lib.hid hkn
    have HWM := Lib.hid hwm
    clear hst hmk hkn hwm
    by_cases hlt : k < N
    · obtain ⟨ad, rfl, hok, hkd, ha⟩ := HL.out.at_ hlt
      generalize hx : l k = x at *
      generalize hgg : runE (1 + ((r1 : Nat) : Int)) (1 + ((r2 : Nat) : Int)) l k = g at *
      have HX := Lib.hid hx
      have HGG := Lib.hid hgg
      have HA := Lib.hid hok
      have HAT := Lib.hid (ha.below HS.out.bel (Nat.le_refl _))
      have c0 := HAT.out.c0
      have c1 := HAT.out.c1
      have c2 := HAT.out.c2
      have c3 := HAT.out.c3
      have c4 := HAT.out.c4
      have hlt' : (k : Int) < (N : Int) := by omega
      have hkm := akind_mod x _ rfl
      have hr12 : x.kind % 12 < 12 := Nat.mod_lt _ (by decide)
      have HS4 := Lib.hid (HS.out.own (Q := fun q => q = m ∨ q = wr.heap.size) (Tx.below_new wr (.cells (actA x) 45)) (fun q hq => by
        rcases hq with hq | hq
        · exact .inl hq
        · exact .inr ⟨by omega, by rw [Tx.size_new]; omega⟩))
      have HB4 := Lib.hid (Tx.Blk.new wr (actA x) 45)
      have HM4 := Lib.hid (HMK.out.below (Tx.below_new wr (.cells (actA x) 45)))
      unfold actA at HS4 HB4 HM4
      clear hx hok ha HAT hgg
      go_wp2_with fail
      refine (does_any HS4.out (by omega) (by omega) HT.out HA.out).mono ?_
      rintro e w5 ⟨rfl, hl5, hs5⟩
      have HAK := Lib.hid (act_known HS.out.inv HKN.out x)
      have HNX := Lib.hid (show (act g x).1 = runE (1 + ((r1 : Nat) : Int)) (1 + ((r2 : Nat) : Int)) l (k + 1) by rw [← HGG.out]; exact (runE_next HX.out).symm)
      have HL5 := Lib.hid (hl5.less (Q := fun q => q = m) (fun q hq => .inl hq))
      have HM5 := Lib.hid (HM4.out.other (hs5.block _ (.inl rfl)))
      have HB5 := Lib.hid (show Tx.Blk w5 wr.heap.size _ 45 from (hs5.block _ (.inr rfl)).trans HB4.out)
      clear hl5 hs5 HS4 HB4 HM4 HS HMK HKN HGG HX c0 c1 c2 c3 c4
      generalize hkk : knows f x (act g x).2.1 (act g x).2.2.2 = f' at *
      generalize (act g x).1 = g' at *
      generalize (act g x).2.2.1 = id at *
      generalize (act g x).2.2.2 = e at *
      generalize (act g x).2.1 = u at *
      obtain ⟨u1, u2⟩ := u
      have hb6 := Tx.below_new w5 (.cells #[.int .i64 u1, .int .i64 u2] 43)
      have HL6 := Lib.hid (HL5.out.below hb6)
      have HM6 := Lib.hid (HM5.out.below hb6)
      have HB6 := Lib.hid (HB5.out.below hb6)
      have HV6 := Lib.hid (Tx.Blk.new w5 #[.int .i64 u1, .int .i64 u2] 43)
      have hb7 := Tx.below_new (w5.alloc (.cells #[.int .i64 u1, .int .i64 u2] 43)) (.cells #[.int .i64 x.id, .int .i64 x.x] 94)
      have HL7 := Lib.hid (HL6.out.below hb7)
      have HM7 := Lib.hid (HM6.out.below hb7)
      have HB7 := Lib.hid (HB6.out.below hb7)
      have HV7 := Lib.hid (HV6.out.below hb7)
      have HK7 := Lib.hid (Tx.Blk.new (w5.alloc (.cells #[.int .i64 u1, .int .i64 u2] 43)) #[.int .i64 x.id, .int .i64 x.x] 94)
      rw [Tx.size_new] at HK7
      have b1 := HB6.out.cell 1
      have b2 := HB6.out.cell 2
      have d0 := HB7.out.cell 0
      have d3 := HB7.out.cell 3
      have d4 := HB7.out.cell 4
      have v0 := HV7.out.cell 0
      have v1 := HV7.out.cell 1
      have k0 := HK7.out.cell 0
      have k1 := HK7.out.cell 1
      simp only [List.getElem?_toArray, List.getElem?_cons_zero, List.getElem?_cons_succ] at b1 b2 d0 d3 d4 v0 v1 k0 k1
      dsimp only
      clear HL5 HM5 HB5 hb6 hb7 HL6 HM6 HB6 HV6
      have hak2 := HAK.out.2
      unfold knows at hkk
      generalize x.kind % 12 = r at *
      by_cases he : e = 0
      · have hlook := HM7.out.look HA.out.id HA.out.x
        rw [if_pos he] at hkk
        by_cases h2 : 2 ≤ r ∧ r ≤ 4
        · rw [if_pos h2] at hkk
          have h21 : (2 : Int) ≤ (r : Nat) := by omega
          have h22 : ((r : Nat) : Int) ≤ 4 := by omega
          have HF2 := Lib.hid hkk
          have hsm := hak2 h2 he
          clear hkk hak2
          subst he
          cases hfx : f x.id x.x with
          | none =>
            rw [hfx] at hlook
            simp only [pairV, rvalA, Option.getD_none, Option.isSome_none] at hlook
            clear hsm hfx
            have hb8 := Tx.below_new ((w5.alloc (.cells #[.int .i64 u1, .int .i64 u2] 43)).alloc (.cells #[.int .i64 x.id, .int .i64 x.x] 94)) (.cells #[.int .i64 0, .int .i64 0] 43)
            have HL8 := Lib.hid (HL7.out.below hb8)
            have HM8 := Lib.hid (HM7.out.below hb8)
            have e0 := (HV7.out.below hb8).cell 0
            have e1 := (HV7.out.below hb8).cell 1
            have j0 := (HK7.out.below hb8).cell 0
            have j1 := (HK7.out.below hb8).cell 1
            simp only [List.getElem?_toArray, List.getElem?_cons_zero, List.getElem?_cons_succ] at e0 e1 j0 j1
            clear hb8 HL7 HM7
            go_wp2_with (refine wpList_putK rfl _ _ _ rfl m k f rfl HM8.out (by omega) x.id x.x (u1, u2) rfl rfl HA.out.id HA.out.x ?_; intro w9 hm9 hg9)
            obtain ⟨es, ck, ho⟩ := HM8.out.obj
            have HL9 := Lib.hid (HL8.out.dry rfl HWM.out (dry_map ho) (kp_grown hg9))
            have HM9 := Lib.hid hm9
            clear hm9 hg9 ho
            go_wp2
            refine ⟨⟨k + 1, m, kput f x.id x.x (u1, u2), by omega, by go_num, rfl, HWM.out, ?_, HM9.out, ?_⟩, by simp [intOf]; omega⟩
            · rw [← HNX.out]; exact HL9.out.mono (Nat.le_refl _) (by omega)
            · rw [← HNX.out, HF2.out]; exact HAK.out.1
          | some z =>
            obtain rfl := hsm z hfx
            rw [hfx] at hlook
            simp only [pairV, rvalA, Option.getD_some, Option.isSome_some] at hlook
            clear hsm hfx
            have hb8 := Tx.below_new ((w5.alloc (.cells #[.int .i64 u1, .int .i64 u2] 43)).alloc (.cells #[.int .i64 x.id, .int .i64 x.x] 94)) (.cells #[.int .i64 u1, .int .i64 u2] 43)
            have HL8 := Lib.hid (HL7.out.below hb8)
            have HM8 := Lib.hid (HM7.out.below hb8)
            have e0 := (HV7.out.below hb8).cell 0
            have e1 := (HV7.out.below hb8).cell 1
            have j0 := (HK7.out.below hb8).cell 0
            have j1 := (HK7.out.below hb8).cell 1
            simp only [List.getElem?_toArray, List.getElem?_cons_zero, List.getElem?_cons_succ] at e0 e1 j0 j1
            clear hb8 HL7 HM7
            go_wp2_with (refine wpList_putK rfl _ _ _ rfl m k f rfl HM8.out (by omega) x.id x.x (u1, u2) rfl rfl HA.out.id HA.out.x ?_; intro w9 hm9 hg9)
            obtain ⟨es, ck, ho⟩ := HM8.out.obj
            have HL9 := Lib.hid (HL8.out.dry rfl HWM.out (dry_map ho) (kp_grown hg9))
            have HM9 := Lib.hid hm9
            clear hm9 hg9 ho
            go_wp2
            refine ⟨⟨k + 1, m, kput f x.id x.x (u1, u2), by omega, by go_num, rfl, HWM.out, ?_, HM9.out, ?_⟩, by simp [intOf]; omega⟩
            · rw [← HNX.out]; exact HL9.out.mono (Nat.le_refl _) (by omega)
            · rw [← HNX.out, HF2.out]; exact HAK.out.1
        · rw [if_neg h2] at hkk
          clear hlook hak2
          by_cases h5 : 5 ≤ r ∧ r ≤ 7
          · rw [if_pos h5] at hkk
            have h21 : (5 : Int) ≤ (r : Nat) := by omega
            have h22 : ((r : Nat) : Int) ≤ 7 := by omega
            have h23 : ¬ ((r : Nat) : Int) ≤ 4 := by omega
            have h24 : (2 : Int) ≤ (r : Nat) := by omega
            have HF2 := Lib.hid hkk
            clear hkk
            subst he
            go_wp2_with (refine wpList_putK rfl _ _ _ rfl m k f rfl HM7.out (by omega) x.id x.x (x.k, x.n) rfl rfl HA.out.id HA.out.x ?_; intro w9 hm9 hg9)
            obtain ⟨es, ck, ho⟩ := HM7.out.obj
            have HL9 := Lib.hid (HL7.out.dry rfl HWM.out (dry_map ho) (kp_grown hg9))
            have HM9 := Lib.hid hm9
            clear hm9 hg9 ho
            go_wp2
            refine ⟨⟨k + 1, m, kput f x.id x.x (x.k, x.n), by omega, by go_num, rfl, HWM.out, ?_, HM9.out, ?_⟩, by simp [intOf]; omega⟩
            · rw [← HNX.out]; exact HL9.out.mono (Nat.le_refl _) (by omega)
            · rw [← HNX.out, HF2.out]; exact HAK.out.1
          · rw [if_neg h5] at hkk
            by_cases h11 : r = 11
            · rw [if_pos h11] at hkk
              subst h11
              have HF2 := Lib.hid hkk
              clear hkk
              subst he
              have hb8 := Tx.below_new ((w5.alloc (.cells #[.int .i64 u1, .int .i64 u2] 43)).alloc (.cells #[.int .i64 x.id, .int .i64 x.x] 94)) (.map #[] 0)
              have HL8 := Lib.hid (HL7.out.own (Q := fun q => q = w5.heap.size + 1 + 1) hb8 (fun q hq => .inr (by rw [show q = _ from hq]; simp only [Tx.size_new]; omega)))
              have HM8 := Lib.hid (mapK_made ((w5.alloc (.cells #[.int .i64 u1, .int .i64 u2] 43)).alloc (.cells #[.int .i64 x.id, .int .i64 x.x] 94)))
              rw [Tx.size_new, Tx.size_new] at HM8
              have HW8 := Lib.hid (show w.heap.size ≤ w5.heap.size + 1 + 1 by have := HWM.out; have := HM7.out.lt; rw [Tx.size_new, Tx.size_new] at this; omega)
              clear hb8
              go_wp2
              refine ⟨⟨k + 1, _, fun _ _ => none, by omega, by go_num, rfl, HW8.out, ?_, HM8.out.mono (Nat.zero_le _), kn_none _⟩, by simp [intOf]; omega⟩
              rw [← HNX.out]; exact HL8.out.mono (Nat.le_refl _) (by omega)
            · rw [if_neg h11] at hkk
              have h21 : ¬ ((r : Nat) : Int) = 11 := by omega
              have HF2 := Lib.hid hkk
              clear hkk
              subst he
              by_cases h25 : 2 ≤ r
              · have h24 : (2 : Int) ≤ (r : Nat) := by omega
                have h23 : ¬ ((r : Nat) : Int) ≤ 4 := by omega
                have h22 : ¬ ((r : Nat) : Int) ≤ 7 := by omega
                have h26 : (5 : Int) ≤ (r : Nat) := by omega
                go_wp2
                refine ⟨⟨k + 1, m, f, by omega, by go_num, rfl, HWM.out, ?_, HM7.out.mono (Nat.le_succ k), ?_⟩, by simp [intOf]; omega⟩
                · rw [← HNX.out]; exact HL7.out.mono (Nat.le_refl _) (by omega)
                · rw [← HNX.out, HF2.out]; exact HAK.out.1
              · have h24 : ¬ (2 : Int) ≤ (r : Nat) := by omega
                have h26 : ¬ (5 : Int) ≤ (r : Nat) := by omega
                go_wp2
                refine ⟨⟨k + 1, m, f, by omega, by go_num, rfl, HWM.out, ?_, HM7.out.mono (Nat.le_succ k), ?_⟩, by simp [intOf]; omega⟩
                · rw [← HNX.out]; exact HL7.out.mono (Nat.le_refl _) (by omega)
                · rw [← HNX.out, HF2.out]; exact HAK.out.1
      · rw [if_neg he] at hkk
        have HF2 := Lib.hid hkk
        clear hkk hak2
        go_wp2
        refine ⟨⟨k + 1, m, f, by omega, by go_num, rfl, HWM.out, ?_, HM7.out.mono (Nat.le_succ k), ?_⟩, by simp [intOf]; omega⟩
        · rw [← HNX.out]; exact HL7.out.mono (Nat.le_refl _) (by omega)
        · rw [← HNX.out, HF2.out]; exact HAK.out.1
    · obtain rfl : k = N := by omega
      go_wp2
      go_ret
      exact ⟨rfl, HS.out.bel⟩
end Go.Proofs.YtkghpecimjmjfaaGreatDoor.En
