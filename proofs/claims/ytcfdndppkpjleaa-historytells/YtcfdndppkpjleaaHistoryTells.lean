/-
  HistoryTells: whether any row of events may be, who is in it, from when to when, and what each did, is the document's.
-/
import Derived.Test.YtcfdndppkpjleaaHRef7
import Derived.Test.YtcfdndppkpjleaaHRef8
import Derived.Test.YtcfdndppkpjleaaHLaw
import Derived.Test.YtcfdndppkpjleaaRepSame
import Derived.Test.YtcfdndppkpjleaaRepEnts2
namespace Go.Proofs.Ytcfdndppkpjleaa.Hi
open Go.RowKit
open Tx (i64p)
open Az
open Rp (Ent Xc encX ItAt)
theorem atZ {w : World} {A : Option Addr} {X : List (Nat × Nat)} (h : Rn.At encZ w A X) {j : Nat} {x : Nat × Nat} (hx : X[j]? = some x) : ∃ ad, A = some ad ∧ w.cell? (ad.add j) = some (.complex .f64 x.1 x.2) := by
  obtain ⟨ad, e, hc⟩ := h.get hx
  exact ⟨ad, e, by have := hc 0 _ rfl; simpa using this⟩
theorem atR {w : World} {A : Option Addr} {X : List (Nat × Nat)} (h : Rn.At encR w A X) {j : Nat} {x : Nat × Nat} (hx : X[j]? = some x) : ∃ ad, A = some ad ∧ w.cell? (ad.add (j * 3)) = some (.int .i64 (x.1 : Nat)) ∧ w.cell? ⟨(ad.add (j * 3)).block, (ad.add (j * 3)).off + 1, none⟩ = some (.int .i64 (x.2 : Nat)) := by
  obtain ⟨ad, e, hc⟩ := h.get hx
  refine ⟨ad, e, hc 0 _ rfl, ?_⟩
  rw [← Rn.add_lit ad (j * 3) 0]; exact hc 1 _ rfl
theorem span_at {l : List Cr} {j : Nat} {c : Cr} (h : l[j]? = some c) : (spanL l)[j]? = some (cr c, ci c) := by unfold spanL; rw [List.getElem?_map, h]; rfl
theorem span_len (l : List Cr) : (spanL l).length = l.length := by unfold spanL; rw [List.length_map]
theorem be_at {l : List Cr} {j : Nat} {c : Cr} (h : l[j]? = some c) : (beL l)[j]? = some (c.b, c.e) := by unfold beL; rw [List.getElem?_map, h]; rfl
theorem be_len (l : List Cr) : (beL l).length = l.length := by unfold beL; rw [List.length_map]
theorem crL_gc {L : List Ev} (hl : L.length ≤ 2000) {j : Nat} {c : Cr} (h : (crL L)[j]? = some c) : Gc c := ((crL_ok hl).1 c (List.mem_of_getElem? h)).gc (Nat.le_refl _)
theorem right_c {c : Cr} (h : Gc c) (w : World) : Calls Try.prog 24 #[.complex .f64 (cr c) (ci c)] w fun e w' => e = .returned (.bool true) ∧ w = w' := Cx.right_at _ _ _ w h.spn
/-- both rows of spans, and all that lay there. -/
structure TT (w : World) (B R : Option Addr) (l : List Cr) (W : World) : Prop where
  sp : Rn.At encZ W B (spanL l)
  rs : Rn.At encR W R (beL l)
  bel : Below w.heap.size w W
theorem TT.below {w : World} {B R : Option Addr} {l : List Cr} {W W' : World} (h : TT w B R l W) (hb : Below W.heap.size W W') : TT w B R l W' := ⟨at_below h.sp hb, at_below h.rs hb, h.bel.trans (hb.mono h.bel.size)⟩
theorem TT.drew {w : World} {B R : Option Addr} {l : List Cr} {W : World} (h : TT w B R l W) : TT w B R l W.drew := h.below (Below.refl _ _).drew
def TTRel (w : World) (B R : Option Addr) (l : List Cr) (i : Value) (wr : World) : Prop := ∃ k : Nat, k ≤ l.length ∧ i = .int .i64 (k : Nat) ∧ TT w B R l wr
set_option maxRecDepth 100000 in
set_option maxHeartbeats 8000000 in
theorem historyTells_walk (A : Option Addr) (n c : Nat) (L : List Ev) (w : World) (h : EvArg w A n c L) :
    Calls Try.prog 3 #[.slice A n c] w fun e w' => e = .returned (.bool true) ∧ Below w.heap.size w w' := by
  obtain ⟨rfl, hnc, hcm, hat, hok⟩ := h
  have H := Lib.hid hat
  have HOK := Lib.hid hok
  have HC0 := Lib.hid (show L.length ≤ c ∧ c ≤ maxLen from ⟨hnc, hcm⟩)
  have hN : (L.length : Int) ≤ 9223372036854775807 := by unfold maxLen at hcm; omega
  clear hat hok hnc hcm
  by_cases hl : L.length ≤ 120
  · have HL := Lib.hid (show L.length ≤ 2000 from by omega)
    have HL3 := Lib.hid (show L.length ≤ 300 from by omega)
    have HX := Lib.hid (show ∀ W, Below w.heap.size w W → Rn.At encE W A L from fun W hb => H.out.below hb (Nat.le_refl _))
    go_enter Try.func3, Try.ntmps3
    go_wp2_with fail
    refine (alive_any _).mono ?_
    rintro r w1 ⟨rfl, hb1⟩
    have HB1 := Lib.hid hb1
    clear hb1
    go_wp2_with fail
    refine (theirs_any A c L _ (HX.out _ HB1.out) HL3.out).mono ?_
    rintro r w2 ⟨B2, d2, rfl, _, _, hat2, hb2⟩
    have HB2 := Lib.hid (HB1.out.trans (hb2.mono HB1.out.size))
    have HA2 := Lib.hid hat2
    clear hat2 hb2 HB1
    go_wp2_with fail
    refine (right_any B2 d2 L _ HA2.out HOK.out HL.out).mono ?_
    rintro r w3 ⟨rfl, hb⟩
    have HB3 := Lib.hid (HB2.out.trans (hb.mono HB2.out.size))
    have HA3 := Lib.hid (at_below HA2.out hb)
    clear hb HB2 HA2
    go_wp2_with fail
    refine (right_r A c L _ (HX.out _ HB3.out) HL3.out HC0.out.1 HC0.out.2).mono ?_
    rintro r w4 ⟨rfl, hb⟩
    have HB4 := Lib.hid (HB3.out.trans (hb.mono HB3.out.size))
    have HA4 := Lib.hid (at_below HA3.out hb)
    clear hb HB3 HA3
    have hsm : ((crs L).isSome != (crs L).isSome) = false := by simp
    generalize (crs L).isSome = b at hsm ⊢
    go_wp2_with fail
    refine (ids_any B2 d2 L _ HA4.out HOK.out HL.out).mono ?_
    rintro r w5 ⟨BI, dI, rfl, _, _, hi5, hb⟩
    have HB5 := Lib.hid (HB4.out.trans (hb.mono HB4.out.size))
    have HA5 := Lib.hid (at_below HA4.out hb)
    have HI5 := Lib.hid hi5
    clear hb hi5 HB4 HA4 hsm
    go_wp2_with fail
    refine (ids_r A c L _ (HX.out _ HB5.out) HL3.out HC0.out.1 HC0.out.2).mono ?_
    rintro r w6 ⟨BJ, dJ, rfl, _, _, hj6, hb⟩
    have HB6 := Lib.hid (HB5.out.trans (hb.mono HB5.out.size))
    have HA6 := Lib.hid (at_below HA5.out hb)
    have HI6 := Lib.hid (at_below HI5.out hb)
    have HJ6 := Lib.hid hj6
    clear hb hj6 HB5 HA5 HI5
    go_wp2_with fail
    refine (same_ints BI BJ dI dJ (idsL (crL L).length) _ HI6.out HJ6.out (by rw [idsL_len]; have := (crL_ok HL.out).2; omega)).mono ?_
    rintro r w7 ⟨rfl, hb⟩
    have HB7 := Lib.hid (HB6.out.trans (hb.mono HB6.out.size))
    have HA7 := Lib.hid (at_below HA6.out hb)
    clear hb HB6 HA6 HI6 HJ6
    go_wp2_with fail
    refine (entries_any B2 d2 L _ HA7.out HOK.out HL.out).mono ?_
    rintro r w8 ⟨BE, dE, Y, rfl, _, _, hit, hb⟩
    have HB8 := Lib.hid (HB7.out.trans (hb.mono HB7.out.size))
    have HA8 := Lib.hid (at_below HA7.out hb)
    have HE8 := Lib.hid hit
    clear hb hit HB7 HA7
    have HEL := Lib.hid (show (entL L).length ≤ 10000 from by unfold entL; have := (crL_ok HL.out).2; simp; omega)
    go_wp2_with fail
    refine (Rp.ours_ents BE dE Y (entL L) _ HE8.out (entL_few L) HEL.out).mono ?_
    rintro r w9 ⟨v9, Y9, rfl, hown, hb⟩
    obtain ⟨BF, dF, rfl, _, _, hit⟩ := hown.slice
    have HB9 := Lib.hid (HB8.out.trans (hb.mono HB8.out.size))
    have HA9 := Lib.hid (at_below HA8.out hb)
    have HF9 := Lib.hid hit
    clear hb hit hown HB8 HA8 HE8
    go_wp2_with fail
    refine (entries_r A c L _ (HX.out _ HB9.out) HOK.out HL3.out HC0.out.1 HC0.out.2).mono ?_
    rintro r w10 ⟨BG, dG, Z, rfl, _, _, hit, hb⟩
    have HB10 := Lib.hid (HB9.out.trans (hb.mono HB9.out.size))
    have HA10 := Lib.hid (at_below HA9.out hb)
    have HF10 := Lib.hid (HF9.out.below hb (Nat.le_refl _))
    have HG10 := Lib.hid hit
    clear hb hit HB9 HA9 HF9
    go_wp2_with fail
    refine (Rp.sameE_yes BF BG dF dG Y9 Z (entL L) _ HF10.out HG10.out (entL_few L) HEL.out).mono ?_
    rintro r w11 ⟨rfl, hb⟩
    have HB11 := Lib.hid (HB10.out.trans (hb.mono HB10.out.size))
    have HA11 := Lib.hid (at_below HA10.out hb)
    clear hb HB10 HA10 HF10 HG10
    go_wp2_with fail
    refine (spans_any B2 d2 L _ HA11.out HOK.out HL.out).mono ?_
    rintro r w12 ⟨BS, dS, rfl, _, _, hs, hb⟩
    have HB12 := Lib.hid (HB11.out.trans (hb.mono HB11.out.size))
    have HS12 := Lib.hid hs
    clear hb hs HB11 HA11
    go_wp2_with fail
    refine (spans_r A c L _ (HX.out _ HB12.out) HL3.out HC0.out.1 HC0.out.2).mono ?_
    rintro r w13 ⟨BR, dr, rfl, _, _, hs, hb⟩
    have HT0 := Lib.hid (show TT w BS BR (crL L) w13 from ⟨at_below HS12.out hb, hs, HB12.out.trans (hb.mono HB12.out.size)⟩)
    clear hb hs HB12 HS12
    rw [span_len, be_len]
    have hCN : ((crL L).length : Int) ≤ 32 := by have := (crL_ok HL.out).2; omega
    go_wp2
    go_loopw [48] (TTRel w BS BR (crL L)) (fun i _ => (crL L).length - (intOf i).toNat)
    case atStart => exact ⟨0, Nat.zero_le _, rfl, HT0.out⟩
    case round =>
      obtain ⟨k, hk, rfl, ht⟩ := hrel
      have HT := Lib.hid ht
      clear ht
      by_cases hlt : k < (crL L).length
      · obtain ⟨c, hcc⟩ : ∃ c, (crL L)[k]? = some c := ⟨_, List.getElem?_eq_getElem hlt⟩
        have HC := Lib.hid hcc
        have HGC := Lib.hid (crL_gc HL.out hcc)
        have HK := Lib.hid hlt
        have hlt' : (k : Int) < ((crL L).length : Int) := by omega
        have HKN := Lib.hid hlt'
        obtain ⟨az, rfl, z0⟩ := atZ HT.out.sp (span_at hcc)
        obtain ⟨ar, rfl, _, _⟩ := atR HT.out.rs (be_at hcc)
        clear hcc
        go_wp2
        refine wp_region_noPanic ?_
        refine region_z 23 (fun W => TT w (some az) (some ar) (crL L) W) 23 1000 rfl (by kernel_rfl) (by exact HT.out.drew) (fun hHeld => ?_)
        refine take_d [1, 7, 8, 9, 10, 11, 12, 13, 14, 15, 16, 17, 18, 19, 20, 21, 22] 0 53 (.complex .f64 (cr c) (ci c)) rfl rfl (by kernel_rfl) (by kernel_rfl) (by kernel_rfl) (by kernel_rfl) (fun _ _ _ h => h) (Or.inl ⟨by rfl, by intro W hW; clear hW; go_simp⟩) hHeld ?_
        simp only [put_laws]
        refine take_d [4, 5, 6, 7, 8, 9, 10, 11, 12, 13, 14, 15, 16, 17, 18, 19, 20, 21, 22] 2 55 (.slice (some ar) (crL L).length dr) rfl rfl (by kernel_rfl) (by kernel_rfl) (by kernel_rfl) (by kernel_rfl) (fun _ _ _ h => h) (Or.inl ⟨by rfl, by intro W hW; clear hW; go_simp⟩) hHeld ?_
        simp only [put_laws]
        refine take_d [4, 5, 6, 7, 8, 9, 10, 11, 12, 13, 14, 15, 16, 17, 18, 19, 20, 21, 22] 3 56 (.int .i64 (k : Nat)) rfl rfl (by kernel_rfl) (by kernel_rfl) (by kernel_rfl) (by kernel_rfl) (fun _ _ _ h => h) (Or.inl ⟨by rfl, by intro W hW; clear hW; go_simp⟩) hHeld ?_
        simp only [put_laws]
        refine take_d [5, 6, 7, 8, 9, 10, 11, 12, 13, 14, 15, 16, 17, 18, 19, 20, 21, 22] 4 57 (.pointer (some (ar.add (k * 3)))) rfl rfl (by kernel_rfl) (by kernel_rfl) (by kernel_rfl) (by kernel_rfl) (fun _ _ _ h => h) (Or.inl ⟨by rfl, by intro W hW; have h1 := HK.out; have h2 := HKN.out; clear hW; go_simp⟩) hHeld ?_
        simp only [put_laws]
        refine take_d [6, 7, 8, 9, 10, 11, 12, 13, 14, 15, 16, 17, 18, 19, 20, 21, 22] 5 58 (.pointer (some (ar.add (k * 3)))) rfl rfl (by kernel_rfl) (by kernel_rfl) (by kernel_rfl) (by kernel_rfl) (fun _ _ _ h => h) (Or.inl ⟨by rfl, by intro W hW; clear hW; go_simp⟩) hHeld ?_
        simp only [put_laws]
        refine take_d [7, 8, 9, 10, 11, 12, 13, 14, 15, 16, 17, 18, 19, 20, 21, 22] 6 59 (.int .i64 (c.b : Nat)) rfl rfl (by kernel_rfl) (by kernel_rfl) (by kernel_rfl) (by kernel_rfl) (fun _ _ _ h => h) (Or.inl ⟨by rfl, by intro W hW; have hh := atR hW.rs (be_at HC.out); obtain ⟨ad2, e2, r0, r1⟩ := hh; have e2 := Option.some.inj e2; subst e2; clear hW; go_simp⟩) hHeld ?_
        simp only [put_laws]
        refine anyZ_ready (rs := [1]) (by kernel_rfl) (by simp) ?_
        refine AllZ.cons rfl (fun K hK => ?_) AllZ.nil
        go_simp
        refine (begin_c HGC.out _).mono ?_
        rintro e w2 ⟨rfl, rfl⟩
        try go_simp
        have hPrev := hHeld
        have hHeld := hPrev
        clear hPrev
        refine hK.out _ _ hHeld (fun hHeld => ?_)
        clear hK K
        refine take_d [8, 9, 10, 11, 12, 13, 14, 15, 16, 17, 18, 19, 20, 21, 22] 7 60 (.bool false) rfl rfl (by kernel_rfl) (by kernel_rfl) (by kernel_rfl) (by kernel_rfl) (fun _ _ _ h => h) (Or.inl ⟨by rfl, by intro W hW; clear hW; go_simp⟩) hHeld ?_
        simp only [put_laws]
        refine take_d [9, 10, 11, 12, 13, 14, 15, 16, 17, 18, 19, 20, 21, 22] 8 61 (.bool false) rfl rfl (by kernel_rfl) (by kernel_rfl) (by kernel_rfl) (by kernel_rfl) (fun _ _ _ h => h) (Or.inl ⟨by rfl, by intro W hW; clear hW; go_simp⟩) hHeld ?_
        simp only [put_laws]
        refine take_d [10, 16, 17, 18, 19, 20, 21, 22] 9 62 (.complex .f64 (cr c) (ci c)) rfl rfl (by kernel_rfl) (by kernel_rfl) (by kernel_rfl) (by kernel_rfl) (fun _ _ _ h => h) (Or.inl ⟨by rfl, by intro W hW; clear hW; go_simp⟩) hHeld ?_
        simp only [put_laws]
        refine take_d [13, 14, 15, 16, 17, 18, 19, 20, 21, 22] 11 64 (.slice (some ar) (crL L).length dr) rfl rfl (by kernel_rfl) (by kernel_rfl) (by kernel_rfl) (by kernel_rfl) (fun _ _ _ h => h) (Or.inl ⟨by rfl, by intro W hW; clear hW; go_simp⟩) hHeld ?_
        simp only [put_laws]
        refine take_d [13, 14, 15, 16, 17, 18, 19, 20, 21, 22] 12 65 (.int .i64 (k : Nat)) rfl rfl (by kernel_rfl) (by kernel_rfl) (by kernel_rfl) (by kernel_rfl) (fun _ _ _ h => h) (Or.inl ⟨by rfl, by intro W hW; clear hW; go_simp⟩) hHeld ?_
        simp only [put_laws]
        refine take_d [14, 15, 16, 17, 18, 19, 20, 21, 22] 13 66 (.pointer (some (ar.add (k * 3)))) rfl rfl (by kernel_rfl) (by kernel_rfl) (by kernel_rfl) (by kernel_rfl) (fun _ _ _ h => h) (Or.inl ⟨by rfl, by intro W hW; have h1 := HK.out; have h2 := HKN.out; clear hW; go_simp⟩) hHeld ?_
        simp only [put_laws]
        refine take_d [15, 16, 17, 18, 19, 20, 21, 22] 14 67 (.pointer (some ⟨(ar.add (k * 3)).block, (ar.add (k * 3)).off + 1, none⟩)) rfl rfl (by kernel_rfl) (by kernel_rfl) (by kernel_rfl) (by kernel_rfl) (fun _ _ _ h => h) (Or.inl ⟨by rfl, by intro W hW; clear hW; go_simp⟩) hHeld ?_
        simp only [put_laws]
        refine take_d [16, 17, 18, 19, 20, 21, 22] 15 68 (.int .i64 (c.e : Nat)) rfl rfl (by kernel_rfl) (by kernel_rfl) (by kernel_rfl) (by kernel_rfl) (fun _ _ _ h => h) (Or.inl ⟨by rfl, by intro W hW; have hh := atR hW.rs (be_at HC.out); obtain ⟨ad2, e2, r0, r1⟩ := hh; have e2 := Option.some.inj e2; subst e2; clear hW; go_simp⟩) hHeld ?_
        simp only [put_laws]
        refine anyZ_ready (rs := [10]) (by kernel_rfl) (by simp) ?_
        refine AllZ.cons rfl (fun K hK => ?_) AllZ.nil
        go_simp
        refine (end_c HGC.out _).mono ?_
        rintro e w2 ⟨rfl, rfl⟩
        try go_simp
        have hPrev := hHeld
        have hHeld := hPrev
        clear hPrev
        refine hK.out _ _ hHeld (fun hHeld => ?_)
        clear hK K
        refine take_d [17, 18, 19, 20, 21, 22] 16 69 (.bool false) rfl rfl (by kernel_rfl) (by kernel_rfl) (by kernel_rfl) (by kernel_rfl) (fun _ _ _ h => h) (Or.inl ⟨by rfl, by intro W hW; clear hW; go_simp⟩) hHeld ?_
        simp only [put_laws]
        refine take_d [18, 19, 20, 21, 22] 17 70 (.bool false) rfl rfl (by kernel_rfl) (by kernel_rfl) (by kernel_rfl) (by kernel_rfl) (fun _ _ _ h => h) (Or.inl ⟨by rfl, by intro W hW; clear hW; go_simp⟩) hHeld ?_
        simp only [put_laws]
        refine take_d [19, 20, 21, 22] 18 71 (.bool false) rfl rfl (by kernel_rfl) (by kernel_rfl) (by kernel_rfl) (by kernel_rfl) (fun _ _ _ h => h) (Or.inl ⟨by rfl, by intro W hW; clear hW; go_simp⟩) hHeld ?_
        simp only [put_laws]
        refine take_d [20, 21, 22] 19 72 (.complex .f64 (cr c) (ci c)) rfl rfl (by kernel_rfl) (by kernel_rfl) (by kernel_rfl) (by kernel_rfl) (fun _ _ _ h => h) (Or.inl ⟨by rfl, by intro W hW; clear hW; go_simp⟩) hHeld ?_
        simp only [put_laws]
        refine anyZ_ready (rs := [20]) (by kernel_rfl) (by simp) ?_
        refine AllZ.cons rfl (fun K hK => ?_) AllZ.nil
        go_simp
        refine (right_c HGC.out _).mono ?_
        rintro e w2 ⟨rfl, rfl⟩
        try go_simp
        have hPrev := hHeld
        have hHeld := hPrev
        clear hPrev
        refine hK.out _ _ hHeld (fun hHeld => ?_)
        clear hK K
        refine take_d [22] 21 74 (.bool false) rfl rfl (by kernel_rfl) (by kernel_rfl) (by kernel_rfl) (by kernel_rfl) (fun _ _ _ h => h) (Or.inl ⟨by rfl, by intro W hW; clear hW; go_simp⟩) hHeld ?_
        simp only [put_laws]
        refine take_d [] 22 75 (.bool false) rfl rfl (by kernel_rfl) (by kernel_rfl) (by kernel_rfl) (by kernel_rfl) (fun _ _ _ h => h) (Or.inl ⟨by rfl, by intro W hW; clear hW; go_simp⟩) hHeld ?_
        simp only [put_laws]
        refine anyZ_done (by kernel_rfl) ?_ _
        refine NoPanic.normal ?_
        have HH := Lib.hid hHeld
        clear hHeld
        go_wp2
        go_roundw
        case rel => exact ⟨k + 1, by have := HK.out; omega, by go_num, HH.out⟩
        case measure => simp [intOf]; have := HK.out; omega
      · have hlt' : ¬ (k : Int) < ((crL L).length : Int) := by omega
        go_wp2
        go_ret
        exact ⟨rfl, HT.out.bel⟩
  · have hl' : (L.length : Int) > 120 := by omega
    go_enter Try.func3, Try.ntmps3
    go_wp2_with fail
    refine (alive_any _).mono ?_
    rintro r w1 ⟨rfl, hb1⟩
    have HB1 := Lib.hid hb1
    clear hb1
    go_wp2
    go_ret
    exact ⟨rfl, HB1.out⟩
end Go.Proofs.Ytcfdndppkpjleaa.Hi
