/-
  HistoryTime: who is over ahead of another one's beginning stands ahead of it.
-/
import Derived.Test.YtcfdndppkpjleaaHLaw
import Derived.Test.YtcfdndppkpjleaaMRefSet
namespace Go.Proofs.Ytcfdndppkpjleaa.Hi
open Go.RowKit
open Tx (i64p)
open Az
theorem atZ {w : World} {A : Option Addr} {X : List (Nat × Nat)} (h : Rn.At encZ w A X) {j : Nat} {x : Nat × Nat} (hx : X[j]? = some x) : ∃ ad, A = some ad ∧ w.cell? (ad.add j) = some (.complex .f64 x.1 x.2) := by
  obtain ⟨ad, e, hc⟩ := h.get hx
  exact ⟨ad, e, by have := hc 0 _ rfl; simpa using this⟩
theorem span_at {l : List Cr} {j : Nat} {c : Cr} (h : l[j]? = some c) : (spanL l)[j]? = some (cr c, ci c) := by unfold spanL; rw [List.getElem?_map, h]; rfl
theorem span_len (l : List Cr) : (spanL l).length = l.length := by unfold spanL; rw [List.length_map]
theorem crL_gc {L : List Ev} (hl : L.length ≤ 2000) {j : Nat} {c : Cr} (h : (crL L)[j]? = some c) : Gc c := ((crL_ok hl).1 c (List.mem_of_getElem? h)).gc (Nat.le_refl _)
theorem crL_none {L : List Ev} (h : (crs L).isSome = false) : crL L = [] := by
  unfold crL
  cases hc : crs L with
  | none => rfl
  | some l => rw [hc] at h; cases h
/-- the matrix's box, the spans, and all that lay there. -/
structure TS (w : World) (q : Nat) (m : Mm.Gr) (B : Option Addr) (S : List (Nat × Nat)) (W : World) : Prop where
  bx : MatAt W q m 50
  at_ : Rn.At encZ W B S
  bel : Below w.heap.size w W
theorem TS.below {w : World} {q : Nat} {m : Mm.Gr} {B : Option Addr} {S : List (Nat × Nat)} {W W' : World} (h : TS w q m B S W) (hb : Below W.heap.size W W') : TS w q m B S W' := ⟨h.bx.below hb, at_below h.at_ hb, h.bel.trans (hb.mono h.bel.size)⟩
theorem TS.drew {w : World} {q : Nat} {m : Mm.Gr} {B : Option Addr} {S : List (Nat × Nat)} {W : World} (h : TS w q m B S W) : TS w q m B S W.drew := h.below (Below.refl _ _).drew
def TSrel (w : World) (q : Nat) (m : Mm.Gr) (B : Option Addr) (S : List (Nat × Nat)) (i : Value) (wr : World) : Prop := ∃ k : Nat, k ≤ S.length ∧ i = .int .i64 k ∧ TS w q m B S wr
theorem ge_before {l : List Cr} {i k : Nat} {c d : Cr} (hc : l[i]? = some c) (hd : l[k]? = some d) (hg : Gc d) (hcg : Gc c) (h : c.e < d.b) : Ge l i k := by
  refine ⟨k, d, hd, .inl ⟨rfl, fun e => ?_, c, hc, .inl h⟩⟩
  subst e
  rw [hc] at hd
  obtain rfl := Option.some.inj hd
  have := hcg.1
  omega
set_option maxRecDepth 100000 in
set_option maxHeartbeats 8000000 in
theorem historyTime_walk (A : Option Addr) (n c : Nat) (L : List Ev) (w : World) (h : EvArg w A n c L) :
    Calls Try.prog 6 #[.slice A n c] w fun e w' => e = .returned (.bool true) ∧ Below w.heap.size w w' := by
  obtain ⟨rfl, hnc, hcm, hat, hok⟩ := h
  have H := Lib.hid hat
  have HOK := Lib.hid hok
  have hN : (L.length : Int) ≤ 9223372036854775807 := by unfold maxLen at hcm; omega
  clear hat hok hnc hcm
  by_cases hl : L.length ≤ 120
  · have HL := Lib.hid (show L.length ≤ 2000 from by omega)
    have HL3 := Lib.hid (show L.length ≤ 300 from by omega)
    go_enter Try.func6, Try.ntmps6
    go_wp2_with fail
    refine (alive_any _).mono ?_
    rintro r w1 ⟨rfl, hb1⟩
    have HB1 := Lib.hid hb1
    have HA1 := Lib.hid (at_below H.out hb1)
    clear hb1
    go_wp2_with fail
    refine (theirs_any A c L _ HA1.out HL3.out).mono ?_
    rintro r w2 ⟨B2, d2, rfl, _, _, hat2, hb2⟩
    have HB2 := Lib.hid (HB1.out.trans (hb2.mono HB1.out.size))
    have HA2 := Lib.hid hat2
    clear hat2 hb2
    go_wp2_with fail
    refine (graph_any B2 d2 L _ HA2.out HOK.out HL.out).mono ?_
    rintro r w3 ⟨m, rfl, his, hb3⟩
    have HB3 := Lib.hid (HB2.out.trans (hb3.mono HB2.out.size))
    have HA3 := Lib.hid (at_below HA2.out hb3)
    have HIS := Lib.hid his
    clear his hb3
    have HX := Lib.hid (mat_box w3 m)
    go_wp2_with (refine wpList_store_row rfl 50 (.tmp 4) (.tmp 19) rfl w3.heap.size (matA m) rfl rfl 50 _ (heap_alloc_new _ _) (matInfo m) (by rw [matA_size]; rfl) (matA_one _) ?_)
    generalize (w3.alloc (.cells #[Value.int .u64 0, Value.int .u64 0, Value.int .u64 0, Value.int .u64 0, Value.int .u64 0, Value.int .u64 0, Value.int .u64 0, Value.int .u64 0, Value.int .u64 0, Value.int .u64 0, Value.int .u64 0, Value.int .u64 0, Value.int .u64 0, Value.int .u64 0, Value.int .u64 0, Value.int .u64 0, Value.int .u64 0, Value.int .u64 0, Value.int .u64 0, Value.int .u64 0, Value.int .u64 0, Value.int .u64 0, Value.int .u64 0, Value.int .u64 0, Value.int .u64 0, Value.int .u64 0, Value.int .u64 0, Value.int .u64 0, Value.int .u64 0, Value.int .u64 0, Value.int .u64 0, Value.int .u64 0] 50)).setRow w3.heap.size (matA m) = w4 at HX ⊢
    have HA4 := Lib.hid (at_below HA3.out HX.out.bel)
    have HB4 := Lib.hid (HB3.out.trans (HX.out.bel.mono HB3.out.size))
    have HM4 := Lib.hid HX.out.bx
    clear HX
    generalize w3.heap.size = q at HM4 ⊢
    refine (spans_any B2 d2 L _ HA4.out HOK.out HL.out).mono ?_
    rintro r w5 ⟨BS, d0, rfl, _, _, hat5, hb5⟩
    have HT5 := Lib.hid (show TS w q m BS (spanL (crL L)) w5 from ⟨HM4.out.below hb5, hat5, HB4.out.trans (hb5.mono HB4.out.size)⟩)
    clear hat5 hb5
    have HSL := Lib.hid (show (spanL (crL L)).length ≤ 32 from by rw [span_len]; exact (crL_ok HL.out).2)
    have hSN : ((spanL (crL L)).length : Int) ≤ 32 := by have := HSL.out; omega
    cases hs : (crs L).isSome with
    | false =>
      have hz : (spanL (crL L)).length = 0 := by rw [crL_none hs]; rfl
      rw [hz]
      clear hs hz hSN
      go_wp2
      go_ret
      exact ⟨rfl, HT5.out.bel⟩
    | true =>
      clear hs
      go_wp2
      go_loopw [30] (TSrel w q m BS (spanL (crL L))) (fun i _ => (spanL (crL L)).length - (intOf i).toNat)
      case atStart => exact ⟨0, Nat.zero_le _, rfl, HT5.out⟩
      case round =>
        obtain ⟨i, hi, rfl, hts⟩ := hrel
        have HTS := Lib.hid hts
        clear hts
        by_cases hlt : i < (spanL (crL L)).length
        · have hlt' : (i : Int) < ((spanL (crL L)).length : Int) := by omega
          have HI := Lib.hid hlt
          have HIN := Lib.hid hlt'
          have HI32 := Lib.hid (show i < 32 from by have := HSL.out; omega)
          have HI3N := Lib.hid (show (i : Int) < 32 from by have := HSL.out; omega)
          obtain ⟨c, hcc⟩ : ∃ c, (crL L)[i]? = some c := ⟨_, List.getElem?_eq_getElem (by rw [← span_len]; exact hlt)⟩
          have HC := Lib.hid hcc
          have HGC := Lib.hid (crL_gc HL.out hcc)
          have HMI := Lib.hid (show m i < 18446744073709551616 from HIS.out.ok i HI32.out)
          clear hcc
          go_wp2
          go_loopw [35] (TSrel w q m BS (spanL (crL L))) (fun i _ => (spanL (crL L)).length - (intOf i).toNat)
          case atStart => exact ⟨0, Nat.zero_le _, rfl, HTS.out⟩
          case round =>
            obtain ⟨k, hk, rfl, hts⟩ := hrel
            have HTS := Lib.hid hts
            clear hts
            by_cases hlk : k < (spanL (crL L)).length
            · have hlk' : (k : Int) < ((spanL (crL L)).length : Int) := by omega
              have HK := Lib.hid hlk
              have HKN := Lib.hid hlk'
              obtain ⟨d, hdd⟩ : ∃ d, (crL L)[k]? = some d := ⟨_, List.getElem?_eq_getElem (by rw [← span_len]; exact hlk)⟩
              have HD := Lib.hid hdd
              have HGD := Lib.hid (crL_gc HL.out hdd)
              obtain ⟨ad, rfl, _⟩ := atZ HTS.out.at_ (span_at hdd)
              clear hdd
              cases hbf : decide (c.e < d.b) with
              | true =>
                have HBF := Lib.hid hbf
                have HHAS := Lib.hid (show Sm.has (m i) (k : Nat) = true from by
                  rw [Sm.has_nat k HMI.out]
                  exact (HIS.out.is i k HI32.out).2 (ge_before HC.out HD.out HGD.out HGC.out (by simpa using hbf)))
                clear hbf
                go_wp2
                refine wp_region_noPanic ?_
                refine region_z 17 (fun W => TS w q m (some ad) (spanL (crL L)) W) 17 1000 rfl (by kernel_rfl) (by exact HTS.out.drew) (fun hHeld => ?_)
                refine take_d [2, 3, 8, 9, 10, 11, 12, 13, 14, 15, 16] 0 38 (.slice (some ad) (spanL (crL L)).length d0) rfl rfl (by kernel_rfl) (by kernel_rfl) (by kernel_rfl) (by kernel_rfl) (fun _ _ _ h => h) (Or.inl ⟨by rfl, by intro W hW; clear hW; go_simp⟩) hHeld ?_
                simp only [put_laws]
                refine take_d [2, 3, 8, 9, 10, 11, 12, 13, 14, 15, 16] 1 39 (.int .i64 (i : Nat)) rfl rfl (by kernel_rfl) (by kernel_rfl) (by kernel_rfl) (by kernel_rfl) (fun _ _ _ h => h) (Or.inl ⟨by rfl, by intro W hW; clear hW; go_simp⟩) hHeld ?_
                simp only [put_laws]
                refine take_d [3, 8, 9, 10, 11, 12, 13, 14, 15, 16] 2 40 (.pointer (some (ad.add i))) rfl rfl (by kernel_rfl) (by kernel_rfl) (by kernel_rfl) (by kernel_rfl) (fun _ _ _ h => h) (Or.inl ⟨by rfl, by intro W hW; have h1 := HI.out; have h2 := HIN.out; clear hW; go_simp⟩) hHeld ?_
                simp only [put_laws]
                refine take_d [8, 9, 10, 11, 12, 13, 14, 15, 16] 3 41 (.complex .f64 (cr c) (ci c)) rfl rfl (by kernel_rfl) (by kernel_rfl) (by kernel_rfl) (by kernel_rfl) (fun _ _ _ h => h) (Or.inl ⟨by rfl, by intro W hW; have hh := atZ hW.at_ (span_at HC.out); obtain ⟨ad2, e2, hh⟩ := hh; have e2 := Option.some.inj e2; subst e2; dsimp only at hh; clear hW; go_simp⟩) hHeld ?_
                simp only [put_laws]
                refine take_d [6, 7, 8, 9, 10, 11, 12, 13, 14, 15, 16] 4 42 (.slice (some ad) (spanL (crL L)).length d0) rfl rfl (by kernel_rfl) (by kernel_rfl) (by kernel_rfl) (by kernel_rfl) (fun _ _ _ h => h) (Or.inl ⟨by rfl, by intro W hW; clear hW; go_simp⟩) hHeld ?_
                simp only [put_laws]
                refine take_d [6, 7, 8, 9, 10, 11, 12, 13, 14, 15, 16] 5 43 (.int .i64 (k : Nat)) rfl rfl (by kernel_rfl) (by kernel_rfl) (by kernel_rfl) (by kernel_rfl) (fun _ _ _ h => h) (Or.inl ⟨by rfl, by intro W hW; clear hW; go_simp⟩) hHeld ?_
                simp only [put_laws]
                refine take_d [7, 8, 9, 10, 11, 12, 13, 14, 15, 16] 6 44 (.pointer (some (ad.add k))) rfl rfl (by kernel_rfl) (by kernel_rfl) (by kernel_rfl) (by kernel_rfl) (fun _ _ _ h => h) (Or.inl ⟨by rfl, by intro W hW; have h1 := HK.out; have h2 := HKN.out; clear hW; go_simp⟩) hHeld ?_
                simp only [put_laws]
                refine take_d [8, 9, 10, 11, 12, 13, 14, 15, 16] 7 45 (.complex .f64 (cr d) (ci d)) rfl rfl (by kernel_rfl) (by kernel_rfl) (by kernel_rfl) (by kernel_rfl) (fun _ _ _ h => h) (Or.inl ⟨by rfl, by intro W hW; have hh := atZ hW.at_ (span_at HD.out); obtain ⟨ad2, e2, hh⟩ := hh; have e2 := Option.some.inj e2; subst e2; dsimp only at hh; clear hW; go_simp⟩) hHeld ?_
                simp only [put_laws]
                refine anyZ_ready (rs := [8]) (by kernel_rfl) (by simp) ?_
                refine AllZ.cons rfl (fun K hK => ?_) AllZ.nil
                go_simp
                refine (before_c HGC.out HGD.out HBF.out _).mono ?_
                rintro e w2 ⟨rfl, rfl⟩
                try go_simp
                have hPrev := hHeld
                have hHeld := hPrev
                clear hPrev
                refine hK.out _ _ hHeld (fun hHeld => ?_)
                clear hK K
                refine take_d [10, 11, 12, 13, 14, 15, 16] 9 47 (.bool true) rfl rfl (by kernel_rfl) (by kernel_rfl) (by kernel_rfl) (by kernel_rfl) (fun _ _ _ h => h) (Or.inl ⟨by rfl, by intro W hW; clear hW; go_simp⟩) hHeld ?_
                simp only [put_laws]
                refine take_d [11, 12, 14, 15, 16] 10 48 (.int .i64 (i : Nat)) rfl rfl (by kernel_rfl) (by kernel_rfl) (by kernel_rfl) (by kernel_rfl) (fun _ _ _ h => h) (Or.inl ⟨by rfl, by intro W hW; clear hW; go_simp⟩) hHeld ?_
                simp only [put_laws]
                refine take_d [12, 14, 15, 16] 11 49 (.pointer (some ⟨q, i, none⟩)) rfl rfl (by kernel_rfl) (by kernel_rfl) (by kernel_rfl) (by kernel_rfl) (fun _ _ _ h => h) (Or.inl ⟨by rfl, by intro W hW; have h1 := HI32.out; have h2 := HIN.out; have h3 := HI3N.out; clear hW; go_simp⟩) hHeld ?_
                simp only [put_laws]
                refine take_d [14, 15, 16] 12 50 (.int .u64 (m i : Nat)) rfl rfl (by kernel_rfl) (by kernel_rfl) (by kernel_rfl) (by kernel_rfl) (fun _ _ _ h => h) (Or.inl ⟨by rfl, by intro W hW; have hh := hW.bx.cell i HI32.out; clear hW; go_simp⟩) hHeld ?_
                simp only [put_laws]
                refine take_d [14, 15, 16] 13 51 (.int .i64 (k : Nat)) rfl rfl (by kernel_rfl) (by kernel_rfl) (by kernel_rfl) (by kernel_rfl) (fun _ _ _ h => h) (Or.inl ⟨by rfl, by intro W hW; clear hW; go_simp⟩) hHeld ?_
                simp only [put_laws]
                refine anyZ_ready (rs := [14]) (by kernel_rfl) (by simp) ?_
                refine AllZ.cons rfl (fun K hK => ?_) AllZ.nil
                go_simp
                refine (rhas_val (m i) (k : Nat) true _ HMI.out (by omega) (by omega) HHAS.out).mono ?_
                rintro e w3 ⟨rfl, rfl⟩
                try go_simp
                have hPrev := hHeld
                have hHeld := hPrev
                clear hPrev
                refine hK.out _ _ hHeld (fun hHeld => ?_)
                clear hK K
                refine take_d [16] 15 53 (.bool false) rfl rfl (by kernel_rfl) (by kernel_rfl) (by kernel_rfl) (by kernel_rfl) (fun _ _ _ h => h) (Or.inl ⟨by rfl, by intro W hW; clear hW; go_simp⟩) hHeld ?_
                simp only [put_laws]
                refine take_d [] 16 54 (.bool false) rfl rfl (by kernel_rfl) (by kernel_rfl) (by kernel_rfl) (by kernel_rfl) (fun _ _ _ h => h) (Or.inl ⟨by rfl, by intro W hW; clear hW; go_simp⟩) hHeld ?_
                simp only [put_laws]
                refine anyZ_done (by kernel_rfl) ?_ _
                refine NoPanic.normal ?_
                have HH := Lib.hid hHeld
                clear hHeld
                go_wp2
                go_roundw
                case rel => exact ⟨k + 1, by have := HK.out; omega, by go_num, HH.out⟩
                case measure => simp [intOf]; have := HK.out; omega
              | false =>
                have HBF := Lib.hid hbf
                clear hbf
                go_wp2
                refine wp_region_noPanic ?_
                refine region_z 17 (fun W => TS w q m (some ad) (spanL (crL L)) W) 17 1000 rfl (by kernel_rfl) (by exact HTS.out.drew) (fun hHeld => ?_)
                refine take_d [2, 3, 8, 9, 10, 11, 12, 13, 14, 15, 16] 0 38 (.slice (some ad) (spanL (crL L)).length d0) rfl rfl (by kernel_rfl) (by kernel_rfl) (by kernel_rfl) (by kernel_rfl) (fun _ _ _ h => h) (Or.inl ⟨by rfl, by intro W hW; clear hW; go_simp⟩) hHeld ?_
                simp only [put_laws]
                refine take_d [2, 3, 8, 9, 10, 11, 12, 13, 14, 15, 16] 1 39 (.int .i64 (i : Nat)) rfl rfl (by kernel_rfl) (by kernel_rfl) (by kernel_rfl) (by kernel_rfl) (fun _ _ _ h => h) (Or.inl ⟨by rfl, by intro W hW; clear hW; go_simp⟩) hHeld ?_
                simp only [put_laws]
                refine take_d [3, 8, 9, 10, 11, 12, 13, 14, 15, 16] 2 40 (.pointer (some (ad.add i))) rfl rfl (by kernel_rfl) (by kernel_rfl) (by kernel_rfl) (by kernel_rfl) (fun _ _ _ h => h) (Or.inl ⟨by rfl, by intro W hW; have h1 := HI.out; have h2 := HIN.out; clear hW; go_simp⟩) hHeld ?_
                simp only [put_laws]
                refine take_d [8, 9, 10, 11, 12, 13, 14, 15, 16] 3 41 (.complex .f64 (cr c) (ci c)) rfl rfl (by kernel_rfl) (by kernel_rfl) (by kernel_rfl) (by kernel_rfl) (fun _ _ _ h => h) (Or.inl ⟨by rfl, by intro W hW; have hh := atZ hW.at_ (span_at HC.out); obtain ⟨ad2, e2, hh⟩ := hh; have e2 := Option.some.inj e2; subst e2; dsimp only at hh; clear hW; go_simp⟩) hHeld ?_
                simp only [put_laws]
                refine take_d [6, 7, 8, 9, 10, 11, 12, 13, 14, 15, 16] 4 42 (.slice (some ad) (spanL (crL L)).length d0) rfl rfl (by kernel_rfl) (by kernel_rfl) (by kernel_rfl) (by kernel_rfl) (fun _ _ _ h => h) (Or.inl ⟨by rfl, by intro W hW; clear hW; go_simp⟩) hHeld ?_
                simp only [put_laws]
                refine take_d [6, 7, 8, 9, 10, 11, 12, 13, 14, 15, 16] 5 43 (.int .i64 (k : Nat)) rfl rfl (by kernel_rfl) (by kernel_rfl) (by kernel_rfl) (by kernel_rfl) (fun _ _ _ h => h) (Or.inl ⟨by rfl, by intro W hW; clear hW; go_simp⟩) hHeld ?_
                simp only [put_laws]
                refine take_d [7, 8, 9, 10, 11, 12, 13, 14, 15, 16] 6 44 (.pointer (some (ad.add k))) rfl rfl (by kernel_rfl) (by kernel_rfl) (by kernel_rfl) (by kernel_rfl) (fun _ _ _ h => h) (Or.inl ⟨by rfl, by intro W hW; have h1 := HK.out; have h2 := HKN.out; clear hW; go_simp⟩) hHeld ?_
                simp only [put_laws]
                refine take_d [8, 9, 10, 11, 12, 13, 14, 15, 16] 7 45 (.complex .f64 (cr d) (ci d)) rfl rfl (by kernel_rfl) (by kernel_rfl) (by kernel_rfl) (by kernel_rfl) (fun _ _ _ h => h) (Or.inl ⟨by rfl, by intro W hW; have hh := atZ hW.at_ (span_at HD.out); obtain ⟨ad2, e2, hh⟩ := hh; have e2 := Option.some.inj e2; subst e2; dsimp only at hh; clear hW; go_simp⟩) hHeld ?_
                simp only [put_laws]
                refine anyZ_ready (rs := [8]) (by kernel_rfl) (by simp) ?_
                refine AllZ.cons rfl (fun K hK => ?_) AllZ.nil
                go_simp
                refine (before_c HGC.out HGD.out HBF.out _).mono ?_
                rintro e w2 ⟨rfl, rfl⟩
                try go_simp
                have hPrev := hHeld
                have hHeld := hPrev
                clear hPrev
                refine hK.out _ _ hHeld (fun hHeld => ?_)
                clear hK K
                refine take_d [10, 11, 12, 13, 14, 15, 16] 9 47 (.bool false) rfl rfl (by kernel_rfl) (by kernel_rfl) (by kernel_rfl) (by kernel_rfl) (fun _ _ _ h => h) (Or.inl ⟨by rfl, by intro W hW; clear hW; go_simp⟩) hHeld ?_
                simp only [put_laws]
                refine take_d [11, 12, 14, 15, 16] 10 48 undef rfl rfl (by kernel_rfl) (by kernel_rfl) (by kernel_rfl) (by kernel_rfl) (fun _ _ _ h => h) (Or.inr ⟨by rfl, rfl⟩) hHeld ?_
                simp only [put_laws]
                refine take_d [12, 14, 15, 16] 11 49 undef rfl rfl (by kernel_rfl) (by kernel_rfl) (by kernel_rfl) (by kernel_rfl) (fun _ _ _ h => h) (Or.inr ⟨by rfl, rfl⟩) hHeld ?_
                simp only [put_laws]
                refine take_d [14, 15, 16] 12 50 undef rfl rfl (by kernel_rfl) (by kernel_rfl) (by kernel_rfl) (by kernel_rfl) (fun _ _ _ h => h) (Or.inr ⟨by rfl, rfl⟩) hHeld ?_
                simp only [put_laws]
                refine take_d [14, 15, 16] 13 51 undef rfl rfl (by kernel_rfl) (by kernel_rfl) (by kernel_rfl) (by kernel_rfl) (fun _ _ _ h => h) (Or.inr ⟨by rfl, rfl⟩) hHeld ?_
                simp only [put_laws]
                refine take_d [15, 16] 14 52 undef rfl rfl (by kernel_rfl) (by kernel_rfl) (by kernel_rfl) (by kernel_rfl) (fun _ _ _ h => h) (Or.inr ⟨by rfl, rfl⟩) hHeld ?_
                simp only [put_laws]
                refine take_d [16] 15 53 undef rfl rfl (by kernel_rfl) (by kernel_rfl) (by kernel_rfl) (by kernel_rfl) (fun _ _ _ h => h) (Or.inr ⟨by rfl, rfl⟩) hHeld ?_
                simp only [put_laws]
                refine take_d [] 16 54 (.bool false) rfl rfl (by kernel_rfl) (by kernel_rfl) (by kernel_rfl) (by kernel_rfl) (fun _ _ _ h => h) (Or.inl ⟨by rfl, by intro W hW; clear hW; go_simp⟩) hHeld ?_
                simp only [put_laws]
                refine anyZ_done (by kernel_rfl) ?_ _
                refine NoPanic.normal ?_
                have HH := Lib.hid hHeld
                clear hHeld
                go_wp2
                go_roundw
                case rel => exact ⟨k + 1, by have := HK.out; omega, by go_num, HH.out⟩
                case measure => simp [intOf]; have := HK.out; omega
            · have hlk' : ¬ (k : Int) < ((spanL (crL L)).length : Int) := by omega
              go_wp2
              go_roundw
              case rel => exact ⟨i + 1, by have := HI.out; omega, by go_num, HTS.out⟩
              case measure => simp [intOf]; have := HI.out; omega
        · have hlt' : ¬ (i : Int) < ((spanL (crL L)).length : Int) := by omega
          go_wp2
          go_ret
          exact ⟨rfl, HTS.out.bel⟩
  · have hl' : (L.length : Int) > 120 := by omega
    go_enter Try.func6, Try.ntmps6
    go_wp2_with fail
    refine (alive_any _).mono ?_
    rintro r w1 ⟨rfl, hb1⟩
    have HB1 := Lib.hid hb1
    clear hb1
    go_wp2
    go_ret
    exact ⟨rfl, HB1.out⟩
end Go.Proofs.Ytcfdndppkpjleaa.Hi
