/-
  The walk of ReplayOwn.
-/
import Derived.Test.YtkbgnapbhboplaaRepLaw
namespace Go.Proofs.Ytkbgnapbhboplaa.Rp
open Go.RowKit Tx
set_option maxHeartbeats 4000000 in
set_option maxRecDepth 100000 in
theorem replayOwn_walk (A B : Option Addr) (n c m d : Nat) (S : List Vp) (X : List Xc) (w : World) (h0 : ValArg w A n c S) (h1 : EntArg w B m d X) :
    Calls Try.prog 4 #[.slice A n c, .slice B m d] w fun e w' => e = .returned (.bool true) ∧ Below w.heap.size w w' := by
  obtain ⟨rfl, hc, hm, hA, _⟩ := h0
  obtain ⟨L, rfl, hd, hm2, hB⟩ := h1.open_
  have HA := Lib.hid hA
  have HB := Lib.hid hB
  have hN : (S.length : Int) ≤ 9223372036854775807 := by unfold maxLen at hm; omega
  have hM : (L.length : Int) ≤ 9223372036854775807 := by unfold maxLen at hm2; omega
  clear hA hB hc hm hd hm2 h1
  go_enter Try.func4, Try.ntmps4
  go_wp2_with fail
  refine (alive_any _).mono ?_
  rintro e w1 ⟨rfl, hb1⟩
  have S1 := Lib.hid (show ArgSt A B S X L w w1 from ⟨HA.out.below hb1 (Nat.le_refl _), HB.out.below hb1 (Nat.le_refl _), hb1⟩)
  clear hb1
  go_wp2_with fail
  refine (heavy_any A B c d S.length X L _ S1.out.ents hN hM (fun x hx => ⟨(S1.out.ents.rd x hx).rd.max, (S1.out.ents.rd x hx).wt.max⟩)).mono ?_
  rintro e w2 ⟨rfl, hb2⟩
  have S2 := Lib.hid (S1.out.below hb2)
  clear hb2
  cases hh : heavy S.length L with
  | true =>
    clear hh
    go_wp2
    go_ret
    exact ⟨rfl, S2.out.bel⟩
  | false =>
    obtain ⟨hf, hs, hl⟩ := heavy_no hh
    have HF := Lib.hid hf
    have hs3 : S.length ≤ 300 := by omega
    have hl4 : L.length ≤ 10000 := by omega
    clear hh hf
    go_wp2_with fail
    refine (theirsV_s A c S _ S2.out.vals hs3).mono ?_
    rintro e w3 ⟨T, tc, rfl, hT, hb3⟩
    have S3 := Lib.hid (S2.out.below hb3)
    have T3 := Lib.hid hT
    clear hT hb3
    go_wp2_with fail
    refine (entries_s B d X L _ S3.out.ents HF.out hl4).mono ?_
    rintro e w4 ⟨U, uc, X2, rfl, hu1, hu2, hU, hb4⟩
    have S4 := Lib.hid (S3.out.below hb4)
    have T4 := Lib.hid (at_below T3.out hb4)
    have U4 := Lib.hid hU
    clear hU hb4 hu1 hu2
    go_wp2_with fail
    refine (all_s T U tc uc S _ _ X2 L _ T4.out U4.out HF.out hl4 hs3 rfl rfl).mono ?_
    rintro e w5 ⟨R, rc, rfl, hR, hb5⟩
    have S5 := Lib.hid (S4.out.below hb5)
    have T5 := Lib.hid (at_below T4.out hb5)
    have U5 := Lib.hid (it_below U4.out hb5)
    clear hR hb5
    generalize (allS S L).length = q1
    generalize allN S L = q2
    go_wp2
    go_loopw [23] (fun i wr => ∃ k : Nat, k ≤ L.length ∧ i = .int .i64 k ∧ Aside (Below w5.heap.size w5 wr)) (fun i _ => L.length - (intOf i).toNat)
    case atStart => exact ⟨0, Nat.zero_le _, rfl, Below.refl _ _⟩
    case round =>
      obtain ⟨k, hk, rfl, HW⟩ := hrel
      by_cases hlt : k < L.length
      · obtain ⟨ad, x, rfl, hXk, hlk, hrd, h5⟩ := (it_below U5.out HW.out).at_ hlt
        obtain ⟨c0, c1, c2, c3, c4⟩ := h5
        have HFX := Lib.hid (HF.out x.e (List.mem_of_getElem? hlk))
        have HBN := Lib.hid (Rn.below_new wr (.cells (entA x) 41))
        have HRD := Lib.hid (hrd.below HBN.out (Nat.le_refl _))
        have HTD := Lib.hid (at_below (at_below T5.out HW.out) HBN.out)
        unfold entA at HBN HRD HTD
        clear hXk hlk hrd
        have hlt' : (k : Int) < (L.length : Int) := by omega
        have h0 : (0 : Int) ≤ (k : Int) := by omega
        go_wp2_with fail
        refine (does_s T tc S _ _ x _ HTD.out HRD.out HFX.out.1 HFX.out.2 hs3 rfl rfl).mono ?_
        rintro e w6 ⟨R6, rc6, rfl, hR6, hb6⟩
        have HW6 := Lib.hid (HW.out.trans ((HBN.out.trans (hb6.mono HBN.out.size)).mono HW.out.size))
        clear hR6 hb6 c0 c1 c2 c3 c4
        generalize (doS S x.e).length = q3
        generalize fits S x.e = q4
        go_wp2
        go_roundw
        case rel => exact ⟨k + 1, by omega, by go_num, HW6.out⟩
        case measure => simp [intOf]; omega
      · have hlt' : ¬ (k : Int) < (L.length : Int) := by omega
        have S6 := Lib.hid (S5.out.below HW.out)
        have T6 := Lib.hid (at_below T5.out HW.out)
        have U6 := Lib.hid (it_below U5.out HW.out)
        go_wp2_with fail
        refine (valuesV_s T tc S _ T6.out hs3).mono ?_
        rintro e w7 ⟨V, vc, rfl, hV, hb7⟩
        have S7 := Lib.hid (S6.out.below hb7)
        have V7 := Lib.hid hV
        have U7 := Lib.hid (it_below U6.out hb7)
        clear hV hb7
        go_wp2_with fail
        refine (vsame_yes V A vc c S _ V7.out S7.out.vals hs3).mono ?_
        rintro e w8 ⟨rfl, hb8⟩
        have S8 := Lib.hid (S7.out.below hb8)
        have U8 := Lib.hid (it_below U7.out hb8)
        clear hb8
        go_wp2_with fail
        refine (oursE_s _ _ X2 L _ U8.out HF.out hl4).mono ?_
        rintro e w9 ⟨O, oc, X3, rfl, ho1, ho2, hO, hb9⟩
        have S9 := Lib.hid (S8.out.below hb9)
        have O9 := Lib.hid hO
        clear hO hb9 ho1 ho2
        go_wp2_with fail
        refine (sameE_yes O B oc d X3 X L _ O9.out S9.out.ents HF.out hl4).mono ?_
        rintro e wa ⟨rfl, hba⟩
        have SA := Lib.hid (S9.out.below hba)
        clear hba
        go_wp2
        go_ret
        exact ⟨rfl, SA.out.bel⟩
end Go.Proofs.Ytkbgnapbhboplaa.Rp
