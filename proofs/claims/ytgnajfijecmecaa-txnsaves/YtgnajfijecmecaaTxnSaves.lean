/-
  The walk of TxnSaves.
-/
import Derived.Test.YtgnajfijecmecaaTxnLaw
namespace Go.Proofs.Ytgnajfijecmecaa.Tx
open Go.RowKit
set_option maxHeartbeats 4000000 in
set_option maxRecDepth 100000 in
theorem txnSaves_walk (A : Option Addr) (N c : Nat) (L : List Sp) (w : World) (hL : TxnArg w A N c L) :
    Calls Try.prog 7 #[.slice A N c] w fun e w' => e = .returned (.bool true) ∧ Below w.heap.size w w' := by
  obtain ⟨rfl, hc, hm, hA⟩ := hL
  have HA := Lib.hid hA
  have hN : (L.length : Int) ≤ 9223372036854775807 := by unfold maxLen at hm; omega
  clear hA hm hc
  go_enter Try.func7, Try.ntmps7
  go_wp2_with fail
  refine (alive_any _).mono ?_
  rintro e w1 ⟨rfl, hb1⟩
  have B1 := Lib.hid hb1
  clear hb1
  by_cases hbig : 250 < L.length
  · have hbig' : (250 : Int) < (L.length : Int) := by omega
    go_wp2
    go_ret
    exact ⟨rfl, B1.out⟩
  have hbig' : ¬ (250 : Int) < (L.length : Int) := by omega
  have hl : L.length ≤ 300 := by omega
  have HL := Lib.hid hl
  have HBL := Lib.hid (Nat.le_trans (backL_len L 0) hl)
  go_wp2_with fail
  refine (theirs_sl _ _ _ _ (HA.out.below B1.out (Nat.le_refl _)) HL.out).mono ?_
  rintro e w2 ⟨T, d, rfl, ht, hb2⟩
  have S2 := Lib.hid (show LawSt A T d L w w2 from ⟨(HA.out.below B1.out (Nat.le_refl _)).below hb2 (Nat.le_refl _), ht, B1.out.trans (hb2.mono B1.out.size)⟩)
  clear ht hb2
  go_wp2_with fail
  refine (save_any _ _ _ _).mono ?_
  rintro e w2' ⟨rfl, rfl⟩
  go_wp2_with fail
  refine (back_as _ _ _ _ L _ S2.out.th HL.out (Nat.le_refl _) (backL_all (Nat.le_refl _))).mono ?_
  rintro e w3 ⟨T3, d3, rfl, h3, hb3⟩
  have H3 := Lib.hid h3
  have S3 := Lib.hid (S2.out.below hb3)
  clear h3 hb3
  go_wp2_with fail
  refine (back_as _ _ 0 _ (backL L 0) _ S3.out.th HL.out (Nat.zero_le _) rfl).mono ?_
  rintro e w4 ⟨T4, d4, rfl, h4, hb4⟩
  have H4 := Lib.hid h4
  have H34 := Lib.hid (H3.out.below hb4)
  have S4 := Lib.hid (S3.out.below hb4)
  clear h4 hb4
  go_wp2_with fail
  refine (save_any _ _ _ _).mono ?_
  rintro e w4' ⟨rfl, rfl⟩
  have hs : wrap64 ((L.length : Int) + 1) = (L.length : Int) + 1 := by have := HL.out; unfold wrap64; omega
  go_wp2_with fail
  refine (back_no _ _ _ _ _ S4.out.th.at_ HL.out (by omega)).mono ?_
  rintro e w5 ⟨T5, d5, rfl, h5, hb5⟩
  have H45 := Lib.hid (H4.out.below hb5)
  have H35 := Lib.hid (H34.out.below hb5)
  have S5 := Lib.hid (S4.out.below hb5)
  clear h5 hb5
  go_wp2_with fail
  refine (ours_sl _ _ _ _ H35.out.at_ HL.out).mono ?_
  rintro e w6 ⟨T6, d6, rfl, h6, hb6⟩
  have H6 := Lib.hid h6
  have H46 := Lib.hid (H45.out.below hb6)
  have S6 := Lib.hid (S5.out.below hb6)
  clear h6 hb6
  go_wp2_with fail
  refine (same_yes _ _ _ _ _ _ H6.out.at_ S6.out.arg HL.out).mono ?_
  rintro e w7 ⟨rfl, hb7⟩
  have H47 := Lib.hid (H46.out.below hb7)
  have S7 := Lib.hid (S6.out.below hb7)
  clear hb7
  go_wp2_with fail
  refine (writes_gone _ _ _ _ H47.out.at_ HBL.out).mono ?_
  rintro e w8 ⟨T8, d8, rfl, hb8⟩
  have H48 := Lib.hid (H47.out.below hb8)
  have S8 := Lib.hid (S7.out.below hb8)
  clear hb8
  go_wp2_with fail
  refine (reads_as _ _ _ (readsL L) _ H48.out.at_ HBL.out (reads_back L 0)).mono ?_
  rintro e w9 ⟨T9, d9, rfl, h9, hb9⟩
  have H9 := Lib.hid h9
  have S9 := Lib.hid (S8.out.below hb9)
  clear h9 hb9
  go_wp2_with fail
  refine (ours_sl _ _ _ _ H9.out.at_ (reads_len L)).mono ?_
  rintro e wa ⟨Ta, da, rfl, ha, hba⟩
  have Ha := Lib.hid ha
  have Sa := Lib.hid (S9.out.below hba)
  clear ha hba
  go_wp2_with fail
  refine (reads_any _ _ _ _ Sa.out.th.at_ HL.out).mono ?_
  rintro e wb ⟨Tb, db, rfl, hb, hbb⟩
  have Hb := Lib.hid hb
  have Hab := Lib.hid (Ha.out.below hbb)
  have Sb := Lib.hid (Sa.out.below hbb)
  clear hb hbb
  go_wp2_with fail
  refine (ours_sl _ _ _ _ Hb.out.at_ (reads_len L)).mono ?_
  rintro e wc ⟨Tc, dc, rfl, hc, hbc⟩
  have Hc := Lib.hid hc
  have Hac := Lib.hid (Hab.out.below hbc)
  have Sc := Lib.hid (Sb.out.below hbc)
  clear hc hbc
  go_wp2_with fail
  refine (same_yes _ _ _ _ _ _ Hac.out.at_ Hc.out.at_ (reads_len L)).mono ?_
  rintro e wd ⟨rfl, hbd⟩
  have Sd := Lib.hid (Sc.out.below hbd)
  clear hbd
  go_wp2
  go_ret
  exact ⟨rfl, Sd.out.bel⟩
end Go.Proofs.Ytgnajfijecmecaa.Tx
