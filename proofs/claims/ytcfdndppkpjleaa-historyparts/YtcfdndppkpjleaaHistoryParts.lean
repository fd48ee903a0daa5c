/-
  HistoryParts: each beginning of a row that may be may be; what is in it stands as before, or is not over yet.
-/
import Derived.Test.YtcfdndppkpjleaaHLaw
import Derived.Test.YtcfdndppkpjleaaHMono
namespace Go.Proofs.Ytcfdndppkpjleaa.Hi
open Go.RowKit
open Tx (i64p)
open Az
theorem atZ {w : World} {A : Option Addr} {X : List (Nat × Nat)} (h : Rn.At encZ w A X) {j : Nat} {x : Nat × Nat} (hx : X[j]? = some x) : ∃ ad, A = some ad ∧ w.cell? (ad.add j) = some (.complex .f64 x.1 x.2) := by
  obtain ⟨ad, e, hc⟩ := h.get hx
  exact ⟨ad, e, by have := hc 0 _ rfl; simpa using this⟩
theorem span_at {l : List Cr} {j : Nat} {c : Cr} (h : l[j]? = some c) : (spanL l)[j]? = some (cr c, ci c) := by unfold spanL; rw [List.getElem?_map, h]; rfl
theorem span_len (l : List Cr) : (spanL l).length = l.length := by unfold spanL; rw [List.length_map]
theorem crL_gc {L : List Ev} (hl : L.length ≤ 2000) {j : Nat} {c : Cr} (h : (crL L)[j]? = some c) : Gc c := ((crL_ok hl).1 c (List.mem_of_getElem? h)).gc (Nat.le_refl _)
theorem crL_nil {L : List Ev} (h : (crs L).isSome = false) : crL L = [] := by
  unfold crL
  cases hc : crs L with
  | none => rfl
  | some l => rw [hc] at h; cases h
theorem crs_pre {L : List Ev} {k : Nat} (hl : L.length ≤ 2000) (h : (crs L).isSome = true) : ∃ l' l, crs (L.take k) = some l' ∧ crs L = some l ∧ Mr (L.take k).length l' l := by
  obtain ⟨l, hc⟩ := Option.isSome_iff_exists.1 h
  have hr := (crs_some hc).2
  have e : L.take k ++ L.drop k = L := List.take_append_drop _ _
  have hr' := hr
  rw [← e] at hr'
  obtain ⟨l', hl'⟩ := run_pre hr'
  have hlt : (L.take k).length ≤ 2000 := by rw [List.length_take]; omega
  exact ⟨l', l, by rw [crs_run hlt]; exact hl', hc, run_mono hl' _ l hr' (by rw [e]; exact hl)⟩
/-- both rows of spans. -/
structure PS (w : World) (B : Option Addr) (S : List (Nat × Nat)) (D : Option Addr) (T : List (Nat × Nat)) (W : World) : Prop where
  a : Rn.At encZ W B S
  b : Rn.At encZ W D T
  bel : Below w.heap.size w W
theorem PS.below {w : World} {B : Option Addr} {S : List (Nat × Nat)} {D : Option Addr} {T : List (Nat × Nat)} {W W' : World} (h : PS w B S D T W) (hb : Below W.heap.size W W') : PS w B S D T W' := ⟨at_below h.a hb, at_below h.b hb, h.bel.trans (hb.mono h.bel.size)⟩
theorem PS.drew {w : World} {B : Option Addr} {S : List (Nat × Nat)} {D : Option Addr} {T : List (Nat × Nat)} {W : World} (h : PS w B S D T W) : PS w B S D T W.drew := h.below (Below.refl _ _).drew
def PSrel (w : World) (B : Option Addr) (S : List (Nat × Nat)) (D : Option Addr) (T : List (Nat × Nat)) (i : Value) (wr : World) : Prop := ∃ k : Nat, k ≤ S.length ∧ i = .int .i64 k ∧ PS w B S D T wr
theorem same_span {c d : Cr} (h1 : c.b = d.b) (h2 : c.e = d.e) : cr c = cr d ∧ ci c = ci d := by unfold cr ci; rw [h1, h2]; exact ⟨rfl, rfl⟩
theorem begin_val {c : Cr} {z : Int} (h : Gc c) (hz : (c.b : Int) = z) (w : World) : Calls Try.prog 22 #[.complex .f64 (cr c) (ci c)] w fun e w' => e = .returned (.int .i64 z) ∧ w = w' := hz ▸ begin_c h w
theorem ord_gc {c : Cr} (h : Gc c) : FloatKind.f64.format.order (cr c) (cr c) = some .eq ∧ FloatKind.f64.format.order (ci c) (ci c) = some .eq := by
  have := Fl.spn_some.1 h.spn
  exact ⟨ord_self this.1, ord_self this.2.1⟩
set_option maxRecDepth 100000 in
set_option maxHeartbeats 8000000 in
theorem historyParts_walk (A : Option Addr) (n c : Nat) (L : List Ev) (a1 : Nat) (w : World) (h : EvArg w A n c L) (ha1 : a1 ≤ 255) :
    Calls Try.prog 5 #[.slice A n c, .int .u8 (a1 : Nat)] w fun e w' => e = .returned (.bool true) ∧ Below w.heap.size w w' := by
  obtain ⟨rfl, hnc, hcm, hat, hok⟩ := h
  have H := Lib.hid hat
  have HOK := Lib.hid hok
  have hN : (L.length : Int) ≤ 9223372036854775807 := by unfold maxLen at hcm; omega
  clear hat hok hnc hcm
  by_cases hl : L.length ≤ 120
  · have HL := Lib.hid (show L.length ≤ 2000 from by omega)
    have HL3 := Lib.hid (show L.length ≤ 300 from by omega)
    obtain ⟨k, hk⟩ : ∃ k : Nat, k = a1 % (L.length + 1) := ⟨_, rfl⟩
    have hkl : k ≤ L.length := by have := Nat.mod_lt a1 (show 0 < L.length + 1 by omega); omega
    have HKL := Lib.hid hkl
    have hrem : Int.tmod ((a1 : Nat) : Int) ((L.length : Int) + 1) = (k : Nat) := by
      rw [Int.tmod_eq_emod_of_nonneg (by omega), hk]
      exact (Int.natCast_emod a1 (L.length + 1)).symm
    have hnz : ((L.length : Int) + 1 == 0) = false := by rw [beq_eq_false_iff_ne]; omega
    have hwa : IntKind.i64.wrap ((a1 : Nat) : Int) = (a1 : Nat) := by rw [IntKind.wrap_i64]; omega
    have hwk : IntKind.i64.wrap ((k : Nat) : Int) = (k : Nat) := by rw [IntKind.wrap_i64]; omega
    have hwl : IntKind.i64.wrap ((L.length : Int) + 1) = (L.length : Int) + 1 := by rw [IntKind.wrap_i64]; omega
    have HTK := Lib.hid (show (L.take k).length = k from by rw [List.length_take]; omega)
    have HOKT := Lib.hid (show ∀ e ∈ L.take k, e.ok from fun e he => HOK.out e (List.mem_of_mem_take he))
    have HLT := Lib.hid (show (L.take k).length ≤ 2000 from by rw [HTK.out]; omega)
    clear hk
    go_enter Try.func5, Try.ntmps5
    go_wp2_with fail
    refine (alive_any _).mono ?_
    rintro r w1 ⟨rfl, hb1⟩
    have HB1 := Lib.hid hb1
    have HA1 := Lib.hid (at_below H.out hb1)
    clear hb1
    go_wp2_with fail
    refine (theirs_any A c L _ HA1.out HL3.out).mono ?_
    rintro r w2 ⟨B2, d2, rfl, hn1, hn2, hat2, hb2⟩
    have HB2 := Lib.hid (HB1.out.trans (hb2.mono HB1.out.size))
    have HA2 := Lib.hid hat2
    have hkd : k ≤ d2 := by omega
    clear hat2 hb2 hn1 hn2
    go_wp2_with fail
    refine (right_any B2 d2 L _ HA2.out HOK.out HL.out).mono ?_
    rintro r w3 ⟨rfl, hb3⟩
    have HB3 := Lib.hid (HB2.out.trans (hb3.mono HB2.out.size))
    have HA3 := Lib.hid (at_below HA2.out hb3)
    clear hb3
    cases hs : (crs L).isSome with
    | false =>
      have he := crL_nil hs
      have z1 : (idsL (crL L).length).length = 0 := by rw [he]; rfl
      have z2 : (spanL (crL L)).length = 0 := by rw [he]; rfl
      have z3 : (entL L).length = 0 := by unfold entL; rw [he]; rfl
      have Z1 := Lib.hid z1
      have Z2 := Lib.hid z2
      have Z3 := Lib.hid z3
      clear hs he z1 z2 z3
      go_wp2_with fail
      refine (ids_any B2 d2 L _ HA3.out HOK.out HL.out).mono ?_
      rintro r w4 ⟨B4, d4, rfl, _, _, _, hb4⟩
      have HB4 := Lib.hid (HB3.out.trans (hb4.mono HB3.out.size))
      have HA4 := Lib.hid (at_below HA3.out hb4)
      clear hb4
      rw [Z1.out]
      go_wp2_with fail
      refine (spans_any B2 d2 L _ HA4.out HOK.out HL.out).mono ?_
      rintro r w5 ⟨B5, d5, rfl, _, _, _, hb5⟩
      have HB5 := Lib.hid (HB4.out.trans (hb5.mono HB4.out.size))
      have HA5 := Lib.hid (at_below HA4.out hb5)
      clear hb5
      rw [Z2.out]
      go_wp2_with fail
      refine (entries_any B2 d2 L _ HA5.out HOK.out HL.out).mono ?_
      rintro r w6 ⟨B6, d6, Y, rfl, _, _, _, hb6⟩
      have HB6 := Lib.hid (HB5.out.trans (hb6.mono HB5.out.size))
      clear hb6
      rw [Z3.out]
      go_wp2
      go_ret
      exact ⟨rfl, HB6.out⟩
    | true =>
      obtain ⟨l', l, e1, e2, hmr⟩ := crs_pre (k := k) HL.out hs
      have HC1 := Lib.hid (show crL (L.take k) = l' from by unfold crL; rw [e1]; rfl)
      have HC2 := Lib.hid (show crL L = l from by unfold crL; rw [e2]; rfl)
      have HMR := Lib.hid (show Mr k (crL (L.take k)) (crL L) from by rw [HC1.out, HC2.out]; have := hmr; rwa [HTK.out] at this)
      have HYES := Lib.hid (show (crs (L.take k)).isSome = true from by rw [e1]; rfl)
      have HLEN := Lib.hid (show (spanL (crL (L.take k))).length ≤ (spanL (crL L)).length from by rw [span_len, span_len]; exact HMR.out.len)
      have HS32 := Lib.hid (show (spanL (crL L)).length ≤ 32 from by rw [span_len]; exact (crL_ok HL.out).2)
      clear hs e1 e2 hmr HC1 HC2
      go_wp2_with fail
      have hG := spans_any B2 d2 (L.take k) _ (HA3.out.take k) HOKT.out HLT.out
      rw [HTK.out] at hG
      refine hG.mono ?_
      clear hG
      rintro r w4 ⟨B4, d4', rfl, _, _, hat4, hb4⟩
      have HB4 := Lib.hid (HB3.out.trans (hb4.mono HB3.out.size))
      have HA4 := Lib.hid (at_below HA3.out hb4)
      have HP4 := Lib.hid hat4
      clear hb4 hat4
      go_wp2_with fail
      refine (spans_any B2 d2 L _ HA4.out HOK.out HL.out).mono ?_
      rintro r w5 ⟨B5, d4, rfl, _, _, hat5, hb5⟩
      have HPS5 := Lib.hid (show PS w B4 (spanL (crL (L.take k))) B5 (spanL (crL L)) w5 from ⟨at_below HP4.out hb5, hat5, HB4.out.trans (hb5.mono HB4.out.size)⟩)
      have HA5 := Lib.hid (at_below HA4.out hb5)
      clear hb5 hat5
      go_wp2_with fail
      have hG := right_any B2 d2 (L.take k) _ (HA5.out.take k) HOKT.out HLT.out
      rw [HTK.out] at hG
      refine hG.mono ?_
      clear hG
      rintro r w6 ⟨rfl, hb6⟩
      have HPS6 := Lib.hid (HPS5.out.below hb6)
      clear hb6
      rw [HYES.out]
      have hdec : decide ((spanL (crL L)).length < (spanL (crL (L.take k))).length) = false := decide_eq_false (by have := HLEN.out; omega)
      have hsN : ((spanL (crL (L.take k))).length : Int) ≤ 32 := by have := HLEN.out; have := HS32.out; omega
      have hsM : ((spanL (crL L)).length : Int) ≤ 32 := by have := HS32.out; omega
      go_wp2
      go_loopw [64] (PSrel w B4 (spanL (crL (L.take k))) B5 (spanL (crL L))) (fun i _ => (spanL (crL (L.take k))).length - (intOf i).toNat)
      case atStart => exact ⟨0, Nat.zero_le _, rfl, HPS6.out⟩
      case round =>
        obtain ⟨i, hi, rfl, hps⟩ := hrel
        have HPS := Lib.hid hps
        clear hps
        by_cases hlt : i < (spanL (crL (L.take k))).length
        · have hlt' : (i : Int) < ((spanL (crL (L.take k))).length : Int) := by omega
          have hlb : (i : Int) < ((spanL (crL L)).length : Int) := by have := HLEN.out; omega
          have HIA := Lib.hid hlt
          have HIB := Lib.hid (show i < (spanL (crL L)).length from by have := HLEN.out; omega)
          have HIBN := Lib.hid hlb
          obtain ⟨c, hcc⟩ : ∃ c, (crL (L.take k))[i]? = some c := ⟨_, List.getElem?_eq_getElem (by rw [← span_len]; exact hlt)⟩
          obtain ⟨d, hdd, hmo⟩ := HMR.out.old i c hcc
          have HD := Lib.hid hdd
          have HGC := Lib.hid (crL_gc HLT.out hcc)
          have HGD := Lib.hid (crL_gc HL.out hdd)
          have HOC := Lib.hid (show Okc k c from by have := crL_okL HLT.out c (List.mem_of_getElem? hcc); rwa [HTK.out] at this)
          have HBB := Lib.hid (show (c.b : Int) = (d.b : Nat) from by rw [hmo.b])
          have HMO := Lib.hid hmo
          obtain ⟨aa, rfl, ca⟩ := atZ HPS.out.a (span_at hcc)
          obtain ⟨ab, rfl, cb⟩ := atZ HPS.out.b (span_at hdd)
          dsimp only at ca cb
          have HOD := Lib.hid (ord_gc HGD.out)
          clear hcc hdd hmo
          by_cases hov : d.e < k
          · have hov' : (d.e : Int) < (k : Int) := by omega
            have HSAME := Lib.hid (same_span (c := c) (d := d) HMO.out.b.symm (HMO.out.e (fun e => by have := HMO.out.live e; omega)).symm)
            go_wp2_with fail
            refine (end_c HGD.out _).mono ?_
            rintro r w7 ⟨rfl, rfl⟩
            go_wp2
            refine wp_region_noPanic ?_
            refine region_z 28 (fun W => PS w (some aa) (spanL (crL (L.take k))) (some ab) (spanL (crL L)) W) 28 1000 rfl (by kernel_rfl) (by exact HPS.out.drew) (fun hHeld => ?_)
            refine take_d [1, 6, 7, 8, 9, 10, 11, 12, 13, 14, 15, 16, 17, 18, 19, 20, 21, 22, 23, 24, 25, 26, 27] 0 76 (.complex .f64 (cr c) (ci c)) rfl rfl (by kernel_rfl) (by kernel_rfl) (by kernel_rfl) (by kernel_rfl) (fun _ _ _ h => h) (Or.inl ⟨by rfl, by intro W hW; clear hW; go_simp⟩) hHeld ?_
            simp only [put_laws]
            refine take_d [4, 5, 6, 7, 8, 9, 10, 11, 12, 13, 14, 15, 16, 17, 18, 19, 20, 21, 22, 23, 24, 25, 26, 27] 2 78 (.slice (some ab) (spanL (crL L)).length d4) rfl rfl (by kernel_rfl) (by kernel_rfl) (by kernel_rfl) (by kernel_rfl) (fun _ _ _ h => h) (Or.inl ⟨by rfl, by intro W hW; clear hW; go_simp⟩) hHeld ?_
            simp only [put_laws]
            refine take_d [4, 5, 6, 7, 8, 9, 10, 11, 12, 13, 14, 15, 16, 17, 18, 19, 20, 21, 22, 23, 24, 25, 26, 27] 3 79 (.int .i64 (i : Nat)) rfl rfl (by kernel_rfl) (by kernel_rfl) (by kernel_rfl) (by kernel_rfl) (fun _ _ _ h => h) (Or.inl ⟨by rfl, by intro W hW; clear hW; go_simp⟩) hHeld ?_
            simp only [put_laws]
            refine take_d [5, 6, 7, 8, 9, 10, 11, 12, 13, 14, 15, 16, 17, 18, 19, 20, 21, 22, 23, 24, 25, 26, 27] 4 80 (.pointer (some (ab.add i))) rfl rfl (by kernel_rfl) (by kernel_rfl) (by kernel_rfl) (by kernel_rfl) (fun _ _ _ h => h) (Or.inl ⟨by rfl, by intro W hW; have h1 := HIB.out; have h2 := HIBN.out; clear hW; go_simp⟩) hHeld ?_
            simp only [put_laws]
            refine take_d [6, 7, 8, 9, 10, 11, 12, 13, 14, 15, 16, 17, 18, 19, 20, 21, 22, 23, 24, 25, 26, 27] 5 81 (.complex .f64 (cr d) (ci d)) rfl rfl (by kernel_rfl) (by kernel_rfl) (by kernel_rfl) (by kernel_rfl) (fun _ _ _ h => h) (Or.inl ⟨by rfl, by intro W hW; have hh := atZ hW.b (span_at HD.out); obtain ⟨ad2, e2, hh⟩ := hh; have e2 := Option.some.inj e2; subst e2; dsimp only at hh; clear hW; go_simp⟩) hHeld ?_
            simp only [put_laws]
            refine anyZ_ready (rs := [1]) (by kernel_rfl) (by simp) ?_
            refine AllZ.cons rfl (fun K hK => ?_) AllZ.nil
            go_simp
            refine (begin_val HGC.out HBB.out _).mono ?_
            rintro e w2 ⟨rfl, rfl⟩
            try go_simp
            have hPrev := hHeld
            have hHeld := hPrev
            clear hPrev
            refine hK.out _ _ hHeld (fun hHeld => ?_)
            clear hK K
            refine anyZ_ready (rs := [6]) (by kernel_rfl) (by simp) ?_
            refine AllZ.cons rfl (fun K hK => ?_) AllZ.nil
            go_simp
            refine (begin_c HGD.out _).mono ?_
            rintro e w2 ⟨rfl, rfl⟩
            try go_simp
            have hPrev := hHeld
            have hHeld := hPrev
            clear hPrev
            refine hK.out _ _ hHeld (fun hHeld => ?_)
            clear hK K
            refine take_d [8, 9, 10, 11, 12, 13, 14, 15, 16, 17, 18, 19, 20, 21, 22, 23, 24, 25, 26, 27] 7 83 (.bool false) rfl rfl (by kernel_rfl) (by kernel_rfl) (by kernel_rfl) (by kernel_rfl) (fun _ _ _ h => h) (Or.inl ⟨by rfl, by intro W hW; have hq := HBB.out; clear hW; go_simp⟩) hHeld ?_
            simp only [put_laws]
            refine take_d [9, 10, 11, 12, 13, 14, 15, 16, 17, 18, 19, 20, 21, 22, 23, 24, 25, 26, 27] 8 84 (.bool false) rfl rfl (by kernel_rfl) (by kernel_rfl) (by kernel_rfl) (by kernel_rfl) (fun _ _ _ h => h) (Or.inl ⟨by rfl, by intro W hW; clear hW; go_simp⟩) hHeld ?_
            simp only [put_laws]
            refine take_d [10, 11, 12, 13, 14, 15, 16, 17, 18, 19, 20, 21, 22, 23, 24, 25, 26, 27] 9 85 (.bool true) rfl rfl (by kernel_rfl) (by kernel_rfl) (by kernel_rfl) (by kernel_rfl) (fun _ _ _ h => h) (Or.inl ⟨by rfl, by intro W hW; clear hW; go_simp⟩) hHeld ?_
            simp only [put_laws]
            refine take_d [11, 12, 13, 14, 15, 16, 17, 18, 19, 20, 21, 22, 23, 24, 25, 26, 27] 10 86 (.bool true) rfl rfl (by kernel_rfl) (by kernel_rfl) (by kernel_rfl) (by kernel_rfl) (fun _ _ _ h => h) (Or.inl ⟨by rfl, by intro W hW; clear hW; go_simp⟩) hHeld ?_
            simp only [put_laws]
            refine take_d [16, 17, 18, 19, 20, 21, 22, 23, 24, 25, 26, 27] 11 87 (.complex .f64 (cr c) (ci c)) rfl rfl (by kernel_rfl) (by kernel_rfl) (by kernel_rfl) (by kernel_rfl) (fun _ _ _ h => h) (Or.inl ⟨by rfl, by intro W hW; clear hW; go_simp⟩) hHeld ?_
            simp only [put_laws]
            refine take_d [14, 15, 16, 17, 18, 19, 20, 21, 22, 23, 24, 25, 26, 27] 12 88 (.slice (some ab) (spanL (crL L)).length d4) rfl rfl (by kernel_rfl) (by kernel_rfl) (by kernel_rfl) (by kernel_rfl) (fun _ _ _ h => h) (Or.inl ⟨by rfl, by intro W hW; clear hW; go_simp⟩) hHeld ?_
            simp only [put_laws]
            refine take_d [14, 15, 16, 17, 18, 19, 20, 21, 22, 23, 24, 25, 26, 27] 13 89 (.int .i64 (i : Nat)) rfl rfl (by kernel_rfl) (by kernel_rfl) (by kernel_rfl) (by kernel_rfl) (fun _ _ _ h => h) (Or.inl ⟨by rfl, by intro W hW; clear hW; go_simp⟩) hHeld ?_
            simp only [put_laws]
            refine take_d [15, 16, 17, 18, 19, 20, 21, 22, 23, 24, 25, 26, 27] 14 90 (.pointer (some (ab.add i))) rfl rfl (by kernel_rfl) (by kernel_rfl) (by kernel_rfl) (by kernel_rfl) (fun _ _ _ h => h) (Or.inl ⟨by rfl, by intro W hW; have h1 := HIB.out; have h2 := HIBN.out; clear hW; go_simp⟩) hHeld ?_
            simp only [put_laws]
            refine take_d [16, 17, 18, 19, 20, 21, 22, 23, 24, 25, 26, 27] 15 91 (.complex .f64 (cr d) (ci d)) rfl rfl (by kernel_rfl) (by kernel_rfl) (by kernel_rfl) (by kernel_rfl) (fun _ _ _ h => h) (Or.inl ⟨by rfl, by intro W hW; have hh := atZ hW.b (span_at HD.out); obtain ⟨ad2, e2, hh⟩ := hh; have e2 := Option.some.inj e2; subst e2; dsimp only at hh; clear hW; go_simp⟩) hHeld ?_
            simp only [put_laws]
            refine take_d [17, 18, 19, 20, 21, 22, 23, 24, 25, 26, 27] 16 92 (.bool false) rfl rfl (by kernel_rfl) (by kernel_rfl) (by kernel_rfl) (by kernel_rfl) (fun _ _ _ h => h) (Or.inl ⟨by rfl, by intro W hW; have q1 := HSAME.out; have q2 := HOD.out.1; have q3 := HOD.out.2; have q4 := HSAME.out.1; have q5 := HSAME.out.2; clear hW; go_simp⟩) hHeld ?_
            simp only [put_laws]
            refine take_d [18, 19, 20, 21, 22, 23, 24, 25, 26, 27] 17 93 (.bool false) rfl rfl (by kernel_rfl) (by kernel_rfl) (by kernel_rfl) (by kernel_rfl) (fun _ _ _ h => h) (Or.inl ⟨by rfl, by intro W hW; clear hW; go_simp⟩) hHeld ?_
            simp only [put_laws]
            refine take_d [19, 20, 21, 22, 23, 24, 25, 26, 27] 18 94 (.bool false) rfl rfl (by kernel_rfl) (by kernel_rfl) (by kernel_rfl) (by kernel_rfl) (fun _ _ _ h => h) (Or.inl ⟨by rfl, by intro W hW; clear hW; go_simp⟩) hHeld ?_
            simp only [put_laws]
            refine take_d [20, 21, 22, 23, 24, 25, 26, 27] 19 95 (.bool false) rfl rfl (by kernel_rfl) (by kernel_rfl) (by kernel_rfl) (by kernel_rfl) (fun _ _ _ h => h) (Or.inl ⟨by rfl, by intro W hW; clear hW; go_simp⟩) hHeld ?_
            simp only [put_laws]
            refine take_d [21, 22, 23, 24, 25, 26, 27] 20 96 (.bool true) rfl rfl (by kernel_rfl) (by kernel_rfl) (by kernel_rfl) (by kernel_rfl) (fun _ _ _ h => h) (Or.inl ⟨by rfl, by intro W hW; clear hW; go_simp⟩) hHeld ?_
            simp only [put_laws]
            refine take_d [22, 23, 24, 25, 26, 27] 21 97 (.bool false) rfl rfl (by kernel_rfl) (by kernel_rfl) (by kernel_rfl) (by kernel_rfl) (fun _ _ _ h => h) (Or.inl ⟨by rfl, by intro W hW; clear hW; go_simp⟩) hHeld ?_
            simp only [put_laws]
            refine take_d [23, 24, 25, 26, 27] 22 98 (.bool false) rfl rfl (by kernel_rfl) (by kernel_rfl) (by kernel_rfl) (by kernel_rfl) (fun _ _ _ h => h) (Or.inl ⟨by rfl, by intro W hW; clear hW; go_simp⟩) hHeld ?_
            simp only [put_laws]
            refine take_d [24, 25, 26, 27] 23 99 undef rfl rfl (by kernel_rfl) (by kernel_rfl) (by kernel_rfl) (by kernel_rfl) (fun _ _ _ h => h) (Or.inr ⟨by rfl, rfl⟩) hHeld ?_
            simp only [put_laws]
            refine take_d [25, 26, 27] 24 100 undef rfl rfl (by kernel_rfl) (by kernel_rfl) (by kernel_rfl) (by kernel_rfl) (fun _ _ _ h => h) (Or.inr ⟨by rfl, rfl⟩) hHeld ?_
            simp only [put_laws]
            refine take_d [26, 27] 25 101 undef rfl rfl (by kernel_rfl) (by kernel_rfl) (by kernel_rfl) (by kernel_rfl) (fun _ _ _ h => h) (Or.inr ⟨by rfl, rfl⟩) hHeld ?_
            simp only [put_laws]
            refine take_d [27] 26 102 (.bool false) rfl rfl (by kernel_rfl) (by kernel_rfl) (by kernel_rfl) (by kernel_rfl) (fun _ _ _ h => h) (Or.inl ⟨by rfl, by intro W hW; clear hW; go_simp⟩) hHeld ?_
            simp only [put_laws]
            refine take_d [] 27 103 (.bool false) rfl rfl (by kernel_rfl) (by kernel_rfl) (by kernel_rfl) (by kernel_rfl) (fun _ _ _ h => h) (Or.inl ⟨by rfl, by intro W hW; clear hW; go_simp⟩) hHeld ?_
            simp only [put_laws]
            refine anyZ_done (by kernel_rfl) ?_ _
            refine NoPanic.normal ?_
            have HH := Lib.hid hHeld
            clear hHeld
            go_wp2
            go_roundw
            case rel => exact ⟨i + 1, by have := HIA.out; omega, by go_num, HH.out⟩
            case measure => simp [intOf]; have := HIA.out; omega
          · have hov' : ¬ (d.e : Int) < (k : Int) := by omega
            have HEN := Lib.hid (show (c.e : Int) = 9007199254740992 from by
              rcases HOC.out.e with h | h
              · rw [h]; rfl
              · have := HMO.out.e (by have := HKL.out; unfold never; omega)
                omega)
            go_wp2_with fail
            refine (end_c HGD.out _).mono ?_
            rintro r w7 ⟨rfl, rfl⟩
            go_wp2
            refine wp_region_noPanic ?_
            refine region_z 28 (fun W => PS w (some aa) (spanL (crL (L.take k))) (some ab) (spanL (crL L)) W) 28 1000 rfl (by kernel_rfl) (by exact HPS.out.drew) (fun hHeld => ?_)
            refine take_d [1, 6, 7, 8, 9, 10, 11, 12, 13, 14, 15, 16, 17, 18, 19, 20, 21, 22, 23, 24, 25, 26, 27] 0 76 (.complex .f64 (cr c) (ci c)) rfl rfl (by kernel_rfl) (by kernel_rfl) (by kernel_rfl) (by kernel_rfl) (fun _ _ _ h => h) (Or.inl ⟨by rfl, by intro W hW; clear hW; go_simp⟩) hHeld ?_
            simp only [put_laws]
            refine take_d [4, 5, 6, 7, 8, 9, 10, 11, 12, 13, 14, 15, 16, 17, 18, 19, 20, 21, 22, 23, 24, 25, 26, 27] 2 78 (.slice (some ab) (spanL (crL L)).length d4) rfl rfl (by kernel_rfl) (by kernel_rfl) (by kernel_rfl) (by kernel_rfl) (fun _ _ _ h => h) (Or.inl ⟨by rfl, by intro W hW; clear hW; go_simp⟩) hHeld ?_
            simp only [put_laws]
            refine take_d [4, 5, 6, 7, 8, 9, 10, 11, 12, 13, 14, 15, 16, 17, 18, 19, 20, 21, 22, 23, 24, 25, 26, 27] 3 79 (.int .i64 (i : Nat)) rfl rfl (by kernel_rfl) (by kernel_rfl) (by kernel_rfl) (by kernel_rfl) (fun _ _ _ h => h) (Or.inl ⟨by rfl, by intro W hW; clear hW; go_simp⟩) hHeld ?_
            simp only [put_laws]
            refine take_d [5, 6, 7, 8, 9, 10, 11, 12, 13, 14, 15, 16, 17, 18, 19, 20, 21, 22, 23, 24, 25, 26, 27] 4 80 (.pointer (some (ab.add i))) rfl rfl (by kernel_rfl) (by kernel_rfl) (by kernel_rfl) (by kernel_rfl) (fun _ _ _ h => h) (Or.inl ⟨by rfl, by intro W hW; have h1 := HIB.out; have h2 := HIBN.out; clear hW; go_simp⟩) hHeld ?_
            simp only [put_laws]
            refine take_d [6, 7, 8, 9, 10, 11, 12, 13, 14, 15, 16, 17, 18, 19, 20, 21, 22, 23, 24, 25, 26, 27] 5 81 (.complex .f64 (cr d) (ci d)) rfl rfl (by kernel_rfl) (by kernel_rfl) (by kernel_rfl) (by kernel_rfl) (fun _ _ _ h => h) (Or.inl ⟨by rfl, by intro W hW; have hh := atZ hW.b (span_at HD.out); obtain ⟨ad2, e2, hh⟩ := hh; have e2 := Option.some.inj e2; subst e2; dsimp only at hh; clear hW; go_simp⟩) hHeld ?_
            simp only [put_laws]
            refine anyZ_ready (rs := [1]) (by kernel_rfl) (by simp) ?_
            refine AllZ.cons rfl (fun K hK => ?_) AllZ.nil
            go_simp
            refine (begin_val HGC.out HBB.out _).mono ?_
            rintro e w2 ⟨rfl, rfl⟩
            try go_simp
            have hPrev := hHeld
            have hHeld := hPrev
            clear hPrev
            refine hK.out _ _ hHeld (fun hHeld => ?_)
            clear hK K
            refine anyZ_ready (rs := [6]) (by kernel_rfl) (by simp) ?_
            refine AllZ.cons rfl (fun K hK => ?_) AllZ.nil
            go_simp
            refine (begin_c HGD.out _).mono ?_
            rintro e w2 ⟨rfl, rfl⟩
            try go_simp
            have hPrev := hHeld
            have hHeld := hPrev
            clear hPrev
            refine hK.out _ _ hHeld (fun hHeld => ?_)
            clear hK K
            refine take_d [8, 9, 10, 11, 12, 13, 14, 15, 16, 17, 18, 19, 20, 21, 22, 23, 24, 25, 26, 27] 7 83 (.bool false) rfl rfl (by kernel_rfl) (by kernel_rfl) (by kernel_rfl) (by kernel_rfl) (fun _ _ _ h => h) (Or.inl ⟨by rfl, by intro W hW; have hq := HBB.out; clear hW; go_simp⟩) hHeld ?_
            simp only [put_laws]
            refine take_d [9, 10, 11, 12, 13, 14, 15, 16, 17, 18, 19, 20, 21, 22, 23, 24, 25, 26, 27] 8 84 (.bool false) rfl rfl (by kernel_rfl) (by kernel_rfl) (by kernel_rfl) (by kernel_rfl) (fun _ _ _ h => h) (Or.inl ⟨by rfl, by intro W hW; clear hW; go_simp⟩) hHeld ?_
            simp only [put_laws]
            refine take_d [10, 11, 12, 13, 14, 15, 16, 17, 18, 19, 20, 21, 22, 23, 24, 25, 26, 27] 9 85 (.bool false) rfl rfl (by kernel_rfl) (by kernel_rfl) (by kernel_rfl) (by kernel_rfl) (fun _ _ _ h => h) (Or.inl ⟨by rfl, by intro W hW; clear hW; go_simp⟩) hHeld ?_
            simp only [put_laws]
            refine take_d [11, 12, 13, 14, 15, 16, 17, 18, 19, 20, 21, 22, 23, 24, 25, 26, 27] 10 86 (.bool false) rfl rfl (by kernel_rfl) (by kernel_rfl) (by kernel_rfl) (by kernel_rfl) (fun _ _ _ h => h) (Or.inl ⟨by rfl, by intro W hW; clear hW; go_simp⟩) hHeld ?_
            simp only [put_laws]
            refine take_d [16, 17, 18, 19, 20, 21, 22, 23, 24, 25, 26, 27] 11 87 undef rfl rfl (by kernel_rfl) (by kernel_rfl) (by kernel_rfl) (by kernel_rfl) (fun _ _ _ h => h) (Or.inr ⟨by rfl, rfl⟩) hHeld ?_
            simp only [put_laws]
            refine take_d [14, 15, 16, 17, 18, 19, 20, 21, 22, 23, 24, 25, 26, 27] 12 88 undef rfl rfl (by kernel_rfl) (by kernel_rfl) (by kernel_rfl) (by kernel_rfl) (fun _ _ _ h => h) (Or.inr ⟨by rfl, rfl⟩) hHeld ?_
            simp only [put_laws]
            refine take_d [14, 15, 16, 17, 18, 19, 20, 21, 22, 23, 24, 25, 26, 27] 13 89 undef rfl rfl (by kernel_rfl) (by kernel_rfl) (by kernel_rfl) (by kernel_rfl) (fun _ _ _ h => h) (Or.inr ⟨by rfl, rfl⟩) hHeld ?_
            simp only [put_laws]
            refine take_d [15, 16, 17, 18, 19, 20, 21, 22, 23, 24, 25, 26, 27] 14 90 undef rfl rfl (by kernel_rfl) (by kernel_rfl) (by kernel_rfl) (by kernel_rfl) (fun _ _ _ h => h) (Or.inr ⟨by rfl, rfl⟩) hHeld ?_
            simp only [put_laws]
            refine take_d [16, 17, 18, 19, 20, 21, 22, 23, 24, 25, 26, 27] 15 91 undef rfl rfl (by kernel_rfl) (by kernel_rfl) (by kernel_rfl) (by kernel_rfl) (fun _ _ _ h => h) (Or.inr ⟨by rfl, rfl⟩) hHeld ?_
            simp only [put_laws]
            refine take_d [17, 18, 19, 20, 21, 22, 23, 24, 25, 26, 27] 16 92 undef rfl rfl (by kernel_rfl) (by kernel_rfl) (by kernel_rfl) (by kernel_rfl) (fun _ _ _ h => h) (Or.inr ⟨by rfl, rfl⟩) hHeld ?_
            simp only [put_laws]
            refine take_d [18, 19, 20, 21, 22, 23, 24, 25, 26, 27] 17 93 (.bool false) rfl rfl (by kernel_rfl) (by kernel_rfl) (by kernel_rfl) (by kernel_rfl) (fun _ _ _ h => h) (Or.inl ⟨by rfl, by intro W hW; clear hW; go_simp⟩) hHeld ?_
            simp only [put_laws]
            refine take_d [19, 20, 21, 22, 23, 24, 25, 26, 27] 18 94 (.bool false) rfl rfl (by kernel_rfl) (by kernel_rfl) (by kernel_rfl) (by kernel_rfl) (fun _ _ _ h => h) (Or.inl ⟨by rfl, by intro W hW; clear hW; go_simp⟩) hHeld ?_
            simp only [put_laws]
            refine take_d [20, 21, 22, 23, 24, 25, 26, 27] 19 95 (.bool false) rfl rfl (by kernel_rfl) (by kernel_rfl) (by kernel_rfl) (by kernel_rfl) (fun _ _ _ h => h) (Or.inl ⟨by rfl, by intro W hW; clear hW; go_simp⟩) hHeld ?_
            simp only [put_laws]
            refine take_d [21, 22, 23, 24, 25, 26, 27] 20 96 (.bool false) rfl rfl (by kernel_rfl) (by kernel_rfl) (by kernel_rfl) (by kernel_rfl) (fun _ _ _ h => h) (Or.inl ⟨by rfl, by intro W hW; clear hW; go_simp⟩) hHeld ?_
            simp only [put_laws]
            refine take_d [22, 23, 24, 25, 26, 27] 21 97 (.bool true) rfl rfl (by kernel_rfl) (by kernel_rfl) (by kernel_rfl) (by kernel_rfl) (fun _ _ _ h => h) (Or.inl ⟨by rfl, by intro W hW; clear hW; go_simp⟩) hHeld ?_
            simp only [put_laws]
            refine take_d [23, 24, 25, 26, 27] 22 98 (.bool true) rfl rfl (by kernel_rfl) (by kernel_rfl) (by kernel_rfl) (by kernel_rfl) (fun _ _ _ h => h) (Or.inl ⟨by rfl, by intro W hW; clear hW; go_simp⟩) hHeld ?_
            simp only [put_laws]
            refine take_d [24, 25, 26, 27] 23 99 (.complex .f64 (cr c) (ci c)) rfl rfl (by kernel_rfl) (by kernel_rfl) (by kernel_rfl) (by kernel_rfl) (fun _ _ _ h => h) (Or.inl ⟨by rfl, by intro W hW; clear hW; go_simp⟩) hHeld ?_
            simp only [put_laws]
            refine anyZ_ready (rs := [24]) (by kernel_rfl) (by simp) ?_
            refine AllZ.cons rfl (fun K hK => ?_) AllZ.nil
            go_simp
            refine (end_val (z := 9007199254740992) HGC.out HEN.out _).mono ?_
            rintro e w3 ⟨rfl, rfl⟩
            try go_simp
            have hPrev := hHeld
            have hHeld := hPrev
            clear hPrev
            refine hK.out _ _ hHeld (fun hHeld => ?_)
            clear hK K
            refine take_d [26, 27] 25 101 (.bool false) rfl rfl (by kernel_rfl) (by kernel_rfl) (by kernel_rfl) (by kernel_rfl) (fun _ _ _ h => h) (Or.inl ⟨by rfl, by intro W hW; clear hW; go_simp⟩) hHeld ?_
            simp only [put_laws]
            refine take_d [27] 26 102 (.bool false) rfl rfl (by kernel_rfl) (by kernel_rfl) (by kernel_rfl) (by kernel_rfl) (fun _ _ _ h => h) (Or.inl ⟨by rfl, by intro W hW; clear hW; go_simp⟩) hHeld ?_
            simp only [put_laws]
            refine take_d [] 27 103 (.bool false) rfl rfl (by kernel_rfl) (by kernel_rfl) (by kernel_rfl) (by kernel_rfl) (fun _ _ _ h => h) (Or.inl ⟨by rfl, by intro W hW; clear hW; go_simp⟩) hHeld ?_
            simp only [put_laws]
            refine anyZ_done (by kernel_rfl) ?_ _
            refine NoPanic.normal ?_
            have HH := Lib.hid hHeld
            clear hHeld
            go_wp2
            go_roundw
            case rel => exact ⟨i + 1, by have := HIA.out; omega, by go_num, HH.out⟩
            case measure => simp [intOf]; have := HIA.out; omega
        · have hlt' : ¬ (i : Int) < ((spanL (crL (L.take k))).length : Int) := by omega
          go_wp2
          go_ret
          exact ⟨rfl, HPS.out.bel⟩
  · have hl' : (L.length : Int) > 120 := by omega
    go_enter Try.func5, Try.ntmps5
    go_wp2_with fail
    refine (alive_any _).mono ?_
    rintro r w1 ⟨rfl, hb1⟩
    have HB1 := Lib.hid hb1
    clear hb1
    go_wp2
    go_ret
    exact ⟨rfl, HB1.out⟩
end Go.Proofs.Ytcfdndppkpjleaa.Hi
