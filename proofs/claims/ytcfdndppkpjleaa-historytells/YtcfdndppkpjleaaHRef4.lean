/-
  Contracts of the document's functions: Right and Ids.
-/
import Derived.Test.YtcfdndppkpjleaaHRef3
import Derived.Test.YtcfdndppkpjleaaHRefG
import Derived.Test.YtcfdndppkpjleaaHGet
namespace Go.Proofs.Ytcfdndppkpjleaa.Hi
open Go.RowKit
open Tx (i64p right)
open Az
theorem fits_rt (A : Option Addr) (c : Nat) (L : List Ev) (k : Nat) (e : Ev) (m : Nat) (w : World) {b : Bool} (h : Rn.At encE w A L) (hl : L.length ≤ 2000) (hk : k ≤ L.length) (hm : m ≤ 100) (hb : fitI (L.take k) e (m : Nat) = b) :
    Calls Try.prog 31 #[.slice A k c, .agg (evA e), .int .i64 (m : Nat)] w fun r w' => r = .returned (.bool b) ∧ Below w.heap.size w w' := by
  have hlen : (L.take k).length = k := by rw [List.length_take, Nat.min_eq_left hk]
  have := fits_r A c (L.take k) e m w (h.take k) (by rw [hlen]; omega) hm hb
  rwa [hlen] at this
/-- the events, and all that lay there. -/
structure RS (w : World) (A : Option Addr) (L : List Ev) (W : World) : Prop where
  at_ : Rn.At encE W A L
  bel : Below w.heap.size w W
theorem RS.below {w : World} {A : Option Addr} {L : List Ev} {W W' : World} (h : RS w A L W) (hb : Below W.heap.size W W') : RS w A L W' := ⟨h.at_.below hb (Nat.le_refl _), h.bel.trans (hb.mono h.bel.size)⟩
theorem RS.drew {w : World} {A : Option Addr} {L : List Ev} {W : World} (h : RS w A L W) : RS w A L W.drew := h.below (Below.refl _ _).drew
def RiRel (w : World) (A : Option Addr) (L : List Ev) (v i : Value) (wr : World) : Prop := ∃ (k : Nat) (l : List Cr), k ≤ L.length ∧ i = .int .i64 (k : Nat) ∧ run 0 [] (L.take k) = some l ∧ v = .int .i64 (l.length : Nat) ∧ RS w A L wr
theorem step_len0 {l : List Cr} {e : Ev} (n : Nat) (h : e.kd = 0) : (step l n e).length = l.length + 1 := by rw [step_begin n h]; simp
theorem step_len1 {l : List Cr} {e : Ev} (n : Nat) (h : e.kd ≠ 0) (hf : fits l e = true) : (step l n e).length = l.length := by
  obtain ⟨j, c, hid, hc, _⟩ := fits_at h hf
  rw [step_note n h hid hc, List.length_set]
theorem rw_take {L : List Ev} {k : Nat} {l : List Cr} (hl : L.length ≤ 2000) (h : run 0 [] (L.take k) = some l) : Rw (L.take k) l := ⟨h, by rw [List.length_take]; omega⟩
set_option maxRecDepth 100000 in
set_option maxHeartbeats 4000000 in
theorem right_r (A : Option Addr) (c : Nat) (L : List Ev) (w : World) (h : Rn.At encE w A L) (hl : L.length ≤ 300) (hc : L.length ≤ c) (hcm : c ≤ maxLen) :
    Calls Try.prog 12 #[.slice A L.length c] w fun r w' => r = .returned (.bool (crs L).isSome) ∧ Below w.heap.size w w' := by
  have H := Lib.hid h
  have HL := Lib.hid (show L.length ≤ 2000 from by omega)
  have HC := Lib.hid (show L.length ≤ c ∧ c ≤ maxLen from ⟨hc, hcm⟩)
  have hN : (L.length : Int) ≤ 300 := by omega
  clear h hc hcm
  generalize hcr : (crs L).isSome = b
  have HCR := Lib.hid hcr
  clear hcr
  go_enter Try.func12, Try.ntmps12
  go_wp2
  go_loopw [3, 4] (RiRel w A L) (fun _ i _ => L.length - (intOf i).toNat)
  case atStart => exact ⟨0, [], Nat.zero_le _, rfl, rfl, rfl, H.out, Below.refl _ _⟩
  case round =>
    obtain ⟨k, l, hk, rfl, hrun, rfl, hs⟩ := hrel
    have HS := Lib.hid hs
    have HR := Lib.hid hrun
    have HKL := Lib.hid hk
    have HRW := Lib.hid (rw_take HL.out hrun)
    have HLL := Lib.hid (show l.length ≤ 100 from by have := HRW.out.few; omega)
    have hLN : (l.length : Int) ≤ 32 := by have := HRW.out.few; omega
    clear hs hrun
    by_cases hlt : k < L.length
    · have he : L[k]? = some L[k] := List.getElem?_eq_getElem hlt
      generalize hEE : L[k] = e at he
      have HE := Lib.hid he
      have HKN := Lib.hid (show ¬ (k : Int) ≥ 2000 from by omega)
      have HKB := Lib.hid hlt
      have HKI := Lib.hid (show (k : Int) < (L.length : Int) from by omega)
      have HKC := Lib.hid (show (k : Int) ≤ (c : Int) ∧ (c : Int) ≤ 9223372036854775807 from ⟨by have := HC.out.1; omega, by have := HC.out.2; unfold maxLen at this; omega⟩)
      obtain ⟨ad, rfl, _⟩ := atE HS.out.at_ he
      have hlt' : (k : Int) < (L.length : Int) := by omega
      clear he hEE
      cases hf : fits l e with
      | false =>
        have HF := Lib.hid ((HRW.out.tie.fits HRW.out.com e).trans hf)
        have hcn := crs_stop HR.out HE.out hf
        obtain rfl : b = false := by rw [← HCR.out, hcn]; rfl
        clear hf hcn
        go_wp2
        refine wp_region_noPanic ?_
        refine region_z 14 (fun W => RS w (some ad) L W) 14 1000 rfl (by kernel_rfl) (by exact HS.out.drew) (fun hHeld => ?_)
        refine take_d [1, 2, 3, 4, 5, 6, 7, 8, 9, 10, 11, 12, 13] 0 11 (.int .i64 (k : Nat)) rfl rfl (by kernel_rfl) (by kernel_rfl) (by kernel_rfl) (by kernel_rfl) (fun _ _ _ h => h) (Or.inl ⟨by rfl, by intro W hW; clear hW; go_simp⟩) hHeld ?_
        simp only [put_laws]
        refine take_d [2, 3, 4, 5, 6, 7, 8, 9, 10, 11, 12, 13] 1 12 (.bool false) rfl rfl (by kernel_rfl) (by kernel_rfl) (by kernel_rfl) (by kernel_rfl) (fun _ _ _ h => h) (Or.inl ⟨by rfl, by intro W hW; have hk := HKN.out; clear hW; go_simp⟩) hHeld ?_
        simp only [put_laws]
        refine take_d [3, 4, 5, 6, 7, 8, 9, 10, 11, 12, 13] 2 13 (.bool false) rfl rfl (by kernel_rfl) (by kernel_rfl) (by kernel_rfl) (by kernel_rfl) (fun _ _ _ h => h) (Or.inl ⟨by rfl, by intro W hW; clear hW; go_simp⟩) hHeld ?_
        simp only [put_laws]
        refine take_d [5, 11, 12, 13] 3 14 (.slice (some ad) L.length c) rfl rfl (by kernel_rfl) (by kernel_rfl) (by kernel_rfl) (by kernel_rfl) (fun _ _ _ h => h) (Or.inl ⟨by rfl, by intro W hW; clear hW; go_simp⟩) hHeld ?_
        simp only [put_laws]
        refine take_d [5, 11, 12, 13] 4 15 (.int .i64 (k : Nat)) rfl rfl (by kernel_rfl) (by kernel_rfl) (by kernel_rfl) (by kernel_rfl) (fun _ _ _ h => h) (Or.inl ⟨by rfl, by intro W hW; clear hW; go_simp⟩) hHeld ?_
        simp only [put_laws]
        refine take_d [11, 12, 13] 5 16 (.slice (some ad) k c) rfl rfl (by kernel_rfl) (by kernel_rfl) (by kernel_rfl) (by kernel_rfl) (fun _ _ _ h => h) (Or.inl ⟨by rfl, by intro W hW; have h1 := HKC.out.1; have h2 := HKC.out.2; clear hW; go_simp⟩) hHeld ?_
        simp only [put_laws]
        refine take_d [8, 9, 11, 12, 13] 6 17 (.slice (some ad) L.length c) rfl rfl (by kernel_rfl) (by kernel_rfl) (by kernel_rfl) (by kernel_rfl) (fun _ _ _ h => h) (Or.inl ⟨by rfl, by intro W hW; clear hW; go_simp⟩) hHeld ?_
        simp only [put_laws]
        refine take_d [8, 9, 11, 12, 13] 7 18 (.int .i64 (k : Nat)) rfl rfl (by kernel_rfl) (by kernel_rfl) (by kernel_rfl) (by kernel_rfl) (fun _ _ _ h => h) (Or.inl ⟨by rfl, by intro W hW; clear hW; go_simp⟩) hHeld ?_
        simp only [put_laws]
        refine take_d [9, 11, 12, 13] 8 19 (.pointer (some (ad.add (k * 5)))) rfl rfl (by kernel_rfl) (by kernel_rfl) (by kernel_rfl) (by kernel_rfl) (fun _ _ _ h => h) (Or.inl ⟨by rfl, by intro W hW; have h1 := HKB.out; have h2 := HKI.out; clear hW; go_simp⟩) hHeld ?_
        simp only [put_laws]
        refine take_d [11, 12, 13] 9 20 (.agg (#[.int .i64 e.kd, .int .i64 e.id, .int .i64 e.x, .int .i64 e.k, .int .i64 e.n])) rfl rfl (by kernel_rfl) (by kernel_rfl) (by kernel_rfl) (by kernel_rfl) (fun _ _ _ h => h) (Or.inl ⟨by rfl, by intro W hW; have hh := atE hW.at_ HE.out; obtain ⟨ad2, e2, hh⟩ := hh; have e2 := Option.some.inj e2; subst e2; obtain ⟨c0, c1, c2, c3, c4⟩ := hh; clear hW; go_simp⟩) hHeld ?_
        simp only [put_laws]
        refine take_d [11, 12, 13] 10 21 (.int .i64 (l.length : Nat)) rfl rfl (by kernel_rfl) (by kernel_rfl) (by kernel_rfl) (by kernel_rfl) (fun _ _ _ h => h) (Or.inl ⟨by rfl, by intro W hW; clear hW; go_simp⟩) hHeld ?_
        simp only [put_laws]
        refine anyZ_ready (rs := [11]) (by kernel_rfl) (by simp) ?_
        refine AllZ.cons rfl (fun K hK => ?_) AllZ.nil
        go_simp
        refine (fits_rt (some ad) c L k e l.length _ hHeld.at_ HL.out HKL.out HLL.out HF.out).mono ?_
        rintro e w1 ⟨rfl, hb⟩
        try go_simp
        have hPrev := hHeld
        have hHeld := hHeld.below hb
        clear hPrev
        refine hK.out _ _ hHeld (fun hHeld => ?_)
        clear hK K
        refine take_d [13] 12 23 (.bool true) rfl rfl (by kernel_rfl) (by kernel_rfl) (by kernel_rfl) (by kernel_rfl) (fun _ _ _ h => h) (Or.inl ⟨by rfl, by intro W hW; clear hW; go_simp⟩) hHeld ?_
        simp only [put_laws]
        refine take_d [] 13 24 (.bool true) rfl rfl (by kernel_rfl) (by kernel_rfl) (by kernel_rfl) (by kernel_rfl) (fun _ _ _ h => h) (Or.inl ⟨by rfl, by intro W hW; clear hW; go_simp⟩) hHeld ?_
        simp only [put_laws]
        refine anyZ_done (by kernel_rfl) ?_ _
        refine NoPanic.normal ?_
        have HH := Lib.hid hHeld
        clear hHeld
        go_wp2
        go_ret
        exact ⟨rfl, HH.out.bel⟩
      | true =>
        have HF := Lib.hid ((HRW.out.tie.fits HRW.out.com e).trans hf)
        have HRN := Lib.hid (show run 0 [] (L.take (k + 1)) = some (step l k e) from by rw [run_take HR.out HE.out, if_pos hf])
        have HFT := Lib.hid hf
        clear hf
        by_cases h0 : e.kd = 0
        · have HSL := Lib.hid (step_len0 (l := l) k h0)
          have b0 : (e.kd == 0) = true := by simpa using h0
          clear h0
          go_wp2
          refine wp_region_noPanic ?_
          refine region_z 14 (fun W => RS w (some ad) L W) 14 1000 rfl (by kernel_rfl) (by exact HS.out.drew) (fun hHeld => ?_)
          refine take_d [1, 2, 3, 4, 5, 6, 7, 8, 9, 10, 11, 12, 13] 0 11 (.int .i64 (k : Nat)) rfl rfl (by kernel_rfl) (by kernel_rfl) (by kernel_rfl) (by kernel_rfl) (fun _ _ _ h => h) (Or.inl ⟨by rfl, by intro W hW; clear hW; go_simp⟩) hHeld ?_
          simp only [put_laws]
          refine take_d [2, 3, 4, 5, 6, 7, 8, 9, 10, 11, 12, 13] 1 12 (.bool false) rfl rfl (by kernel_rfl) (by kernel_rfl) (by kernel_rfl) (by kernel_rfl) (fun _ _ _ h => h) (Or.inl ⟨by rfl, by intro W hW; have hk := HKN.out; clear hW; go_simp⟩) hHeld ?_
          simp only [put_laws]
          refine take_d [3, 4, 5, 6, 7, 8, 9, 10, 11, 12, 13] 2 13 (.bool false) rfl rfl (by kernel_rfl) (by kernel_rfl) (by kernel_rfl) (by kernel_rfl) (fun _ _ _ h => h) (Or.inl ⟨by rfl, by intro W hW; clear hW; go_simp⟩) hHeld ?_
          simp only [put_laws]
          refine take_d [5, 11, 12, 13] 3 14 (.slice (some ad) L.length c) rfl rfl (by kernel_rfl) (by kernel_rfl) (by kernel_rfl) (by kernel_rfl) (fun _ _ _ h => h) (Or.inl ⟨by rfl, by intro W hW; clear hW; go_simp⟩) hHeld ?_
          simp only [put_laws]
          refine take_d [5, 11, 12, 13] 4 15 (.int .i64 (k : Nat)) rfl rfl (by kernel_rfl) (by kernel_rfl) (by kernel_rfl) (by kernel_rfl) (fun _ _ _ h => h) (Or.inl ⟨by rfl, by intro W hW; clear hW; go_simp⟩) hHeld ?_
          simp only [put_laws]
          refine take_d [11, 12, 13] 5 16 (.slice (some ad) k c) rfl rfl (by kernel_rfl) (by kernel_rfl) (by kernel_rfl) (by kernel_rfl) (fun _ _ _ h => h) (Or.inl ⟨by rfl, by intro W hW; have h1 := HKC.out.1; have h2 := HKC.out.2; clear hW; go_simp⟩) hHeld ?_
          simp only [put_laws]
          refine take_d [8, 9, 11, 12, 13] 6 17 (.slice (some ad) L.length c) rfl rfl (by kernel_rfl) (by kernel_rfl) (by kernel_rfl) (by kernel_rfl) (fun _ _ _ h => h) (Or.inl ⟨by rfl, by intro W hW; clear hW; go_simp⟩) hHeld ?_
          simp only [put_laws]
          refine take_d [8, 9, 11, 12, 13] 7 18 (.int .i64 (k : Nat)) rfl rfl (by kernel_rfl) (by kernel_rfl) (by kernel_rfl) (by kernel_rfl) (fun _ _ _ h => h) (Or.inl ⟨by rfl, by intro W hW; clear hW; go_simp⟩) hHeld ?_
          simp only [put_laws]
          refine take_d [9, 11, 12, 13] 8 19 (.pointer (some (ad.add (k * 5)))) rfl rfl (by kernel_rfl) (by kernel_rfl) (by kernel_rfl) (by kernel_rfl) (fun _ _ _ h => h) (Or.inl ⟨by rfl, by intro W hW; have h1 := HKB.out; have h2 := HKI.out; clear hW; go_simp⟩) hHeld ?_
          simp only [put_laws]
          refine take_d [11, 12, 13] 9 20 (.agg (#[.int .i64 e.kd, .int .i64 e.id, .int .i64 e.x, .int .i64 e.k, .int .i64 e.n])) rfl rfl (by kernel_rfl) (by kernel_rfl) (by kernel_rfl) (by kernel_rfl) (fun _ _ _ h => h) (Or.inl ⟨by rfl, by intro W hW; have hh := atE hW.at_ HE.out; obtain ⟨ad2, e2, hh⟩ := hh; have e2 := Option.some.inj e2; subst e2; obtain ⟨c0, c1, c2, c3, c4⟩ := hh; clear hW; go_simp⟩) hHeld ?_
          simp only [put_laws]
          refine take_d [11, 12, 13] 10 21 (.int .i64 (l.length : Nat)) rfl rfl (by kernel_rfl) (by kernel_rfl) (by kernel_rfl) (by kernel_rfl) (fun _ _ _ h => h) (Or.inl ⟨by rfl, by intro W hW; clear hW; go_simp⟩) hHeld ?_
          simp only [put_laws]
          refine anyZ_ready (rs := [11]) (by kernel_rfl) (by simp) ?_
          refine AllZ.cons rfl (fun K hK => ?_) AllZ.nil
          go_simp
          refine (fits_rt (some ad) c L k e l.length _ hHeld.at_ HL.out HKL.out HLL.out HF.out).mono ?_
          rintro e w1 ⟨rfl, hb⟩
          try go_simp
          have hPrev := hHeld
          have hHeld := hHeld.below hb
          clear hPrev
          refine hK.out _ _ hHeld (fun hHeld => ?_)
          clear hK K
          refine take_d [13] 12 23 (.bool false) rfl rfl (by kernel_rfl) (by kernel_rfl) (by kernel_rfl) (by kernel_rfl) (fun _ _ _ h => h) (Or.inl ⟨by rfl, by intro W hW; clear hW; go_simp⟩) hHeld ?_
          simp only [put_laws]
          refine take_d [] 13 24 (.bool false) rfl rfl (by kernel_rfl) (by kernel_rfl) (by kernel_rfl) (by kernel_rfl) (fun _ _ _ h => h) (Or.inl ⟨by rfl, by intro W hW; clear hW; go_simp⟩) hHeld ?_
          simp only [put_laws]
          refine anyZ_done (by kernel_rfl) ?_ _
          refine NoPanic.normal ?_
          have HH := Lib.hid hHeld
          clear hHeld
          have hh := atE HH.out.at_ HE.out
          obtain ⟨ad2, e2, hh⟩ := hh
          have e2 := Option.some.inj e2
          subst e2
          obtain ⟨c0, c1, c2, c3, c4⟩ := hh
          go_wp2
          go_roundw
          case rel => exact ⟨k + 1, _, by have := HKB.out; omega, by go_num, HRN.out, by rw [HSL.out]; go_num, HH.out⟩
          case measure => simp [intOf]; have := HKB.out; omega
        · have HSL := Lib.hid (step_len1 k h0 HFT.out)
          have b0 : (e.kd == 0) = false := by simpa using h0
          clear h0
          go_wp2
          refine wp_region_noPanic ?_
          refine region_z 14 (fun W => RS w (some ad) L W) 14 1000 rfl (by kernel_rfl) (by exact HS.out.drew) (fun hHeld => ?_)
          refine take_d [1, 2, 3, 4, 5, 6, 7, 8, 9, 10, 11, 12, 13] 0 11 (.int .i64 (k : Nat)) rfl rfl (by kernel_rfl) (by kernel_rfl) (by kernel_rfl) (by kernel_rfl) (fun _ _ _ h => h) (Or.inl ⟨by rfl, by intro W hW; clear hW; go_simp⟩) hHeld ?_
          simp only [put_laws]
          refine take_d [2, 3, 4, 5, 6, 7, 8, 9, 10, 11, 12, 13] 1 12 (.bool false) rfl rfl (by kernel_rfl) (by kernel_rfl) (by kernel_rfl) (by kernel_rfl) (fun _ _ _ h => h) (Or.inl ⟨by rfl, by intro W hW; have hk := HKN.out; clear hW; go_simp⟩) hHeld ?_
          simp only [put_laws]
          refine take_d [3, 4, 5, 6, 7, 8, 9, 10, 11, 12, 13] 2 13 (.bool false) rfl rfl (by kernel_rfl) (by kernel_rfl) (by kernel_rfl) (by kernel_rfl) (fun _ _ _ h => h) (Or.inl ⟨by rfl, by intro W hW; clear hW; go_simp⟩) hHeld ?_
          simp only [put_laws]
          refine take_d [5, 11, 12, 13] 3 14 (.slice (some ad) L.length c) rfl rfl (by kernel_rfl) (by kernel_rfl) (by kernel_rfl) (by kernel_rfl) (fun _ _ _ h => h) (Or.inl ⟨by rfl, by intro W hW; clear hW; go_simp⟩) hHeld ?_
          simp only [put_laws]
          refine take_d [5, 11, 12, 13] 4 15 (.int .i64 (k : Nat)) rfl rfl (by kernel_rfl) (by kernel_rfl) (by kernel_rfl) (by kernel_rfl) (fun _ _ _ h => h) (Or.inl ⟨by rfl, by intro W hW; clear hW; go_simp⟩) hHeld ?_
          simp only [put_laws]
          refine take_d [11, 12, 13] 5 16 (.slice (some ad) k c) rfl rfl (by kernel_rfl) (by kernel_rfl) (by kernel_rfl) (by kernel_rfl) (fun _ _ _ h => h) (Or.inl ⟨by rfl, by intro W hW; have h1 := HKC.out.1; have h2 := HKC.out.2; clear hW; go_simp⟩) hHeld ?_
          simp only [put_laws]
          refine take_d [8, 9, 11, 12, 13] 6 17 (.slice (some ad) L.length c) rfl rfl (by kernel_rfl) (by kernel_rfl) (by kernel_rfl) (by kernel_rfl) (fun _ _ _ h => h) (Or.inl ⟨by rfl, by intro W hW; clear hW; go_simp⟩) hHeld ?_
          simp only [put_laws]
          refine take_d [8, 9, 11, 12, 13] 7 18 (.int .i64 (k : Nat)) rfl rfl (by kernel_rfl) (by kernel_rfl) (by kernel_rfl) (by kernel_rfl) (fun _ _ _ h => h) (Or.inl ⟨by rfl, by intro W hW; clear hW; go_simp⟩) hHeld ?_
          simp only [put_laws]
          refine take_d [9, 11, 12, 13] 8 19 (.pointer (some (ad.add (k * 5)))) rfl rfl (by kernel_rfl) (by kernel_rfl) (by kernel_rfl) (by kernel_rfl) (fun _ _ _ h => h) (Or.inl ⟨by rfl, by intro W hW; have h1 := HKB.out; have h2 := HKI.out; clear hW; go_simp⟩) hHeld ?_
          simp only [put_laws]
          refine take_d [11, 12, 13] 9 20 (.agg (#[.int .i64 e.kd, .int .i64 e.id, .int .i64 e.x, .int .i64 e.k, .int .i64 e.n])) rfl rfl (by kernel_rfl) (by kernel_rfl) (by kernel_rfl) (by kernel_rfl) (fun _ _ _ h => h) (Or.inl ⟨by rfl, by intro W hW; have hh := atE hW.at_ HE.out; obtain ⟨ad2, e2, hh⟩ := hh; have e2 := Option.some.inj e2; subst e2; obtain ⟨c0, c1, c2, c3, c4⟩ := hh; clear hW; go_simp⟩) hHeld ?_
          simp only [put_laws]
          refine take_d [11, 12, 13] 10 21 (.int .i64 (l.length : Nat)) rfl rfl (by kernel_rfl) (by kernel_rfl) (by kernel_rfl) (by kernel_rfl) (fun _ _ _ h => h) (Or.inl ⟨by rfl, by intro W hW; clear hW; go_simp⟩) hHeld ?_
          simp only [put_laws]
          refine anyZ_ready (rs := [11]) (by kernel_rfl) (by simp) ?_
          refine AllZ.cons rfl (fun K hK => ?_) AllZ.nil
          go_simp
          refine (fits_rt (some ad) c L k e l.length _ hHeld.at_ HL.out HKL.out HLL.out HF.out).mono ?_
          rintro e w1 ⟨rfl, hb⟩
          try go_simp
          have hPrev := hHeld
          have hHeld := hHeld.below hb
          clear hPrev
          refine hK.out _ _ hHeld (fun hHeld => ?_)
          clear hK K
          refine take_d [13] 12 23 (.bool false) rfl rfl (by kernel_rfl) (by kernel_rfl) (by kernel_rfl) (by kernel_rfl) (fun _ _ _ h => h) (Or.inl ⟨by rfl, by intro W hW; clear hW; go_simp⟩) hHeld ?_
          simp only [put_laws]
          refine take_d [] 13 24 (.bool false) rfl rfl (by kernel_rfl) (by kernel_rfl) (by kernel_rfl) (by kernel_rfl) (fun _ _ _ h => h) (Or.inl ⟨by rfl, by intro W hW; clear hW; go_simp⟩) hHeld ?_
          simp only [put_laws]
          refine anyZ_done (by kernel_rfl) ?_ _
          refine NoPanic.normal ?_
          have HH := Lib.hid hHeld
          clear hHeld
          have hh := atE HH.out.at_ HE.out
          obtain ⟨ad2, e2, hh⟩ := hh
          have e2 := Option.some.inj e2
          subst e2
          obtain ⟨c0, c1, c2, c3, c4⟩ := hh
          go_wp2
          go_roundw
          case rel => exact ⟨k + 1, _, by have := HKB.out; omega, by go_num, HRN.out, by rw [HSL.out], HH.out⟩
          case measure => simp [intOf]; have := HKB.out; omega
    · have hlt' : ¬ (k : Int) < (L.length : Int) := by omega
      have hT : L.take k = L := List.take_of_length_le (by omega)
      have hcs : crs L = some l := by rw [crs_run HL.out, ← hT]; exact HR.out
      obtain rfl : b = true := by rw [← HCR.out, hcs]; rfl
      clear hT hcs
      go_wp2
      go_ret
      exact ⟨rfl, HS.out.bel⟩
theorem vtI : Rn.VT encI 29 3 := by
  obtain ⟨i0, hi, hz0, hz1, hz2⟩ := info_parts int_info
  exact ⟨Try.underlying29, i0, _, hi, hz0, hz1, by rw [hz2]; decide, rfl⟩
theorem idsL_succ (n : Nat) : idsL (n + 1) = idsL n ++ [(n : Int) + 1] := by unfold idsL; rw [List.range_succ, List.map_append]; rfl
theorem idsL_len (n : Nat) : (idsL n).length = n := by unfold idsL; simp
theorem idsL_get {n j : Nat} (h : j < n) : (idsL n)[j]? = some ((j : Int) + 1) := by unfold idsL; simp [h]
theorem run_pre {L : List Ev} {l : List Cr} (h : run 0 [] L = some l) (k : Nat) : ∃ l', run 0 [] (L.take k) = some l' := by
  have e : L.take k ++ L.drop k = L := List.take_append_drop _ _
  rw [← e, run_append] at h
  cases q : run 0 [] (L.take k) with
  | some l' => exact ⟨l', rfl⟩
  | none => rw [q] at h; cases h
theorem fits_pre {L : List Ev} {l l' : List Cr} {k : Nat} {e : Ev} (h : run 0 [] L = some l) (h' : run 0 [] (L.take k) = some l') (he : L[k]? = some e) : fits l' e = true := by
  cases hf : fits l' e with
  | true => rfl
  | false =>
    have := crs_stop h' he hf
    obtain ⟨l2, h2⟩ := run_pre h (k + 1)
    have h3 := run_take h' he
    rw [h2, hf] at h3
    cases h3
def IiRel (w : World) (A : Option Addr) (L : List Ev) (v i : Value) (wr : World) : Prop := ∃ (k : Nat) (l : List Cr), k ≤ L.length ∧ i = .int .i64 (k : Nat) ∧ run 0 [] (L.take k) = some l ∧ Rn.Own encI wr w.heap.size 3 v (idsL l.length) ∧ RS w A L wr
theorem ids_one (W : World) (g : Nat) (hg : W.heap.size = g) (v : Int) : Rn.At encI (W.alloc (.cells #[.int .i64 v] 3)) (some ⟨g, 0, none⟩) [v] := Rn.At.new W v #[.int .i64 v] rfl 3 hg
theorem own_rows {α : Type} {E : Rn.Enc α} {w w' : World} {base : Nat} {e : TypeId} {v : Value} {l : List α} (h : Rn.Own E w' base e v l) (hb : Below w.heap.size w w') : RowS E l w (.returned v) w' := by
  obtain ⟨B, d, rfl, h1, h2, h3, _⟩ := h.slice
  exact ⟨B, d, rfl, h1, h2, h3, hb⟩
set_option maxRecDepth 100000 in
set_option maxHeartbeats 4000000 in
theorem ids_r (A : Option Addr) (c : Nat) (L : List Ev) (w : World) (h : Rn.At encE w A L) (hl : L.length ≤ 300) (hc : L.length ≤ c) (hcm : c ≤ maxLen) :
    Calls Try.prog 15 #[.slice A L.length c] w (RowS encI (idsL (crL L).length) w) := by
  have H := Lib.hid h
  have HL := Lib.hid (show L.length ≤ 2000 from by omega)
  have HR := Lib.hid (right_r A c L w h hl hc hcm)
  have hN : (L.length : Int) ≤ 300 := by omega
  clear h hc hcm
  cases hcs : crs L with
  | none =>
    have hL0 : crL L = [] := by unfold crL; rw [hcs]; rfl
    rw [hL0]
    rw [hcs] at HR
    clear hcs hL0
    go_enter Try.func15, Try.ntmps15
    go_wp2_with fail
    refine HR.out.mono ?_
    rintro r w1 ⟨rfl, hb⟩
    have HB := Lib.hid hb
    clear hb
    go_wp2
    go_ret
    exact own_rows (Rn.Own.nil (E := encI) w1 w.heap.size 3) HB.out
  | some l0 =>
    have hL0 : crL L = l0 := by unfold crL; rw [hcs]; rfl
    have HRN := Lib.hid (crs_some hcs).2
    rw [hL0]
    rw [hcs] at HR
    clear hcs hL0
    go_enter Try.func15, Try.ntmps15
    go_wp2_with fail
    refine HR.out.mono ?_
    rintro r w1 ⟨rfl, hb⟩
    have HS0 := Lib.hid (show RS w A L w1 from ⟨H.out.below hb (Nat.le_refl _), hb⟩)
    clear hb
    go_wp2
    go_loopw [3, 4] (IiRel w A L) (fun _ i _ => L.length - (intOf i).toNat)
    case atStart => exact ⟨0, [], Nat.zero_le _, rfl, rfl, Rn.Own.nil _ _ _, HS0.out⟩
    case round =>
      obtain ⟨k, l, hk, rfl, hrun, hown, hs⟩ := hrel
      have HS := Lib.hid hs
      have HO := Lib.hid hown
      have HRK := Lib.hid hrun
      have HRW := Lib.hid (rw_take HL.out hrun)
      have hLN : l.length ≤ 32 := HRW.out.few
      clear hs hrun hown
      by_cases hlt : k < L.length
      · have he : L[k]? = some L[k] := List.getElem?_eq_getElem hlt
        generalize hEE : L[k] = e at he
        have HE := Lib.hid he
        obtain ⟨ad, rfl, c0, c1, c2, c3, c4⟩ := atE HS.out.at_ he
        have hlt' : (k : Int) < (L.length : Int) := by omega
        have hf := fits_pre HRN.out HRK.out he
        have HRN1 := Lib.hid (show run 0 [] (L.take (k + 1)) = some (step l k e) from by rw [run_take HRK.out he, if_pos hf])
        have HFT := Lib.hid hf
        clear he hEE hf
        by_cases h0 : e.kd = 0
        · have HSL := Lib.hid (step_len0 (l := l) k h0)
          have b0 : (e.kd == 0) = true := by simpa using h0
          have hid := (fits_begin h0 HFT.out).1
          have HA := Lib.hid (ids_one wr wr.heap.size rfl e.id)
          have HID := Lib.hid hid
          clear h0 hid
          go_wp2_with (at_builtin; refine Rn.append_row encI vtI rfl _ _ rfl rfl (HO.out.alloc _) _ _ [e.id] rfl rfl HA.out ?c1 ?c2 ?_)
          case c1 => rw [idsL_len]; simp; omega
          case c2 => have := HS.out.bel.size; simp; omega
          intro v' w2 ho hb hs
          have HO2 := Lib.hid (show Rn.Own encI w2 w.heap.size 3 v' (idsL (step l k e).length) from by rw [HSL.out, idsL_succ, ← HID.out]; exact ho)
          have HS2 := Lib.hid (show RS w (some ad) L w2 from by
            have hb1 := (HS.out.bel.alloc HS.out.bel.size (.cells #[.int .i64 e.id] 3)).trans hb
            exact ⟨H.out.below hb1 (Nat.le_refl _), hb1⟩)
          clear ho hb hs c0 c1 c2 c3 c4
          go_wp2
          go_roundw
          case rel => exact ⟨k + 1, _, by omega, by go_num, HRN1.out, HO2.out, HS2.out⟩
          case measure => simp [intOf]; omega
        · have HSL := Lib.hid (step_len1 k h0 HFT.out)
          have b0 : (e.kd == 0) = false := by simpa using h0
          clear h0
          go_wp2
          go_roundw
          case rel => exact ⟨k + 1, _, by omega, by go_num, HRN1.out, by rw [HSL.out]; exact HO.out, HS.out⟩
          case measure => simp [intOf]; omega
      · have hlt' : ¬ (k : Int) < (L.length : Int) := by omega
        have hT : L.take k = L := List.take_of_length_le (by omega)
        have hll : l = l0 := by have h1 := HRK.out; rw [hT, HRN.out] at h1; exact (Option.some.inj h1).symm
        subst hll
        clear hT
        go_wp2
        go_ret
        exact own_rows HO.out HS.out.bel
end Go.Proofs.Ytcfdndppkpjleaa.Hi
