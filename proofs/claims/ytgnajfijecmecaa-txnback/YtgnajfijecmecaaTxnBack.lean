/-
  The walk of TxnBack.
-/
import Derived.Test.YtgnajfijecmecaaTxnLaw
namespace Go.Proofs.Ytgnajfijecmecaa.Tx
open Go.RowKit
theorem rest_k (s n : Nat) : ∃ k : Nat, ((s : Nat) : Int).tmod ((n : Int) + 1) = (k : Int) ∧ k ≤ n := ⟨s % (n + 1), by rw [Int.tmod_eq_emod_of_nonneg (by omega)]; simp, by have := Nat.mod_lt s (show 0 < n + 1 by omega); omega⟩
theorem writes_row (A : Option Addr) (c m : Nat) (L : List Sp) (w : World) (h : VarsAt w A L) (hl : L.length ≤ 300) (hm : L.length = m) : Calls Try.prog 16 #[.slice A m c] w (SlPost (writesL L) w) := hm ▸ writes_any A c L w h hl
theorem back_ge {L : List Sp} {k : Nat} (h : k ≤ L.length) : k ≤ (backL L k).length := by unfold backL; simp; omega
theorem take_sl {W : World} {A : Option Addr} {c : Nat} {L : List Sp} (h : SlAt W A c L) (k : Nat) : VarsAt W A (L.take k) := h.at_.takeA k
set_option maxHeartbeats 4000000 in
set_option maxRecDepth 100000 in
theorem txnBack_walk (A : Option Addr) (N c : Nat) (L : List Sp) (s : Nat) (w : World) (hL : TxnArg w A N c L) (hs : s < 256) :
    Calls Try.prog 5 #[.slice A N c, .int .u8 (s : Nat)] w fun e w' => e = .returned (.bool true) ∧ Below w.heap.size w w' := by
  obtain ⟨rfl, hc, hm, hA⟩ := hL
  have HA := Lib.hid hA
  have hN : (L.length : Int) ≤ 9223372036854775807 := by unfold maxLen at hm; omega
  clear hA hm hc
  go_enter Try.func5, Try.ntmps5
  go_wp2_with fail
  refine (alive_any _).mono ?_
  rintro e w1 ⟨rfl, hb1⟩
  have B1 := Lib.hid hb1
  clear hb1
  by_cases hbig : 250 < L.length
  · have hbig' : (250 : Int) < (L.length : Int) := by omega
    go_wp2
    go_ret
    exact ⟨rfl, B1.out⟩
  have hbig' : ¬ (250 : Int) < (L.length : Int) := by omega
  have hl : L.length ≤ 300 := by omega
  have HL := Lib.hid hl
  go_wp2_with fail
  refine (theirs_sl _ _ _ _ (HA.out.below B1.out (Nat.le_refl _)) HL.out).mono ?_
  rintro e w2 ⟨T, d, rfl, ht, hb2⟩
  have S2 := Lib.hid (show LawSt A T d L w w2 from ⟨(HA.out.below B1.out (Nat.le_refl _)).below hb2 (Nat.le_refl _), ht, B1.out.trans (hb2.mono B1.out.size)⟩)
  have hd := ht.le
  have hdm := ht.max
  unfold maxLen at hdm
  clear ht hb2
  obtain ⟨k, hk, hkl⟩ := rest_k s L.length
  have HK := Lib.hid hkl
  have hs1 : wrap64 ((L.length : Int) + 1) = (L.length : Int) + 1 := by have := HL.out; unfold wrap64; omega
  have hz : ¬ ((L.length : Int) + 1 = 0) := by omega
  have hkd : (k : Int) ≤ (d : Int) := by omega
  have HTL := Lib.hid (show (L.take k).length = k by simp; omega)
  have HBL := Lib.hid (Nat.le_trans (backL_len L k) HL.out)
  have HTK := Lib.hid (show (L.take k).length ≤ 300 by simp; omega)
  rcases T with _ | ad
  · obtain rfl := S2.out.th.at_.nil_
    obtain rfl : k = 0 := by simpa using hkl
    go_wp2_with fail
    refine (back_as _ _ 0 [] (backL [] 0) _ S2.out.th HL.out HK.out rfl).mono ?_
    rintro e w3 ⟨T3, d3, rfl, h3, hb3⟩
    have H3 := Lib.hid h3
    have S3 := Lib.hid (S2.out.below hb3)
    clear h3 hb3
    go_wp2_with fail
    refine (writes_as _ _ (backL [] 0) (writesL (List.take 0 [])) _ H3.out.at_ HBL.out (writes_back [] 0)).mono ?_
    rintro e w4 ⟨T4, d4, rfl, h4, hb4⟩
    have H4 := Lib.hid h4
    have Y4 := Lib.hid (H3.out.below hb4)
    have S4 := Lib.hid (S3.out.below hb4)
    clear h4 hb4
    go_wp2_with fail
    refine (ours_sl _ _ _ _ H4.out.at_ (writes_len _)).mono ?_
    rintro e w5 ⟨T5, d5, rfl, h5, hb5⟩
    have H5 := Lib.hid h5
    have Y5 := Lib.hid (Y4.out.below hb5)
    have S5 := Lib.hid (S4.out.below hb5)
    clear h5 hb5
    go_wp2_with fail
    refine (writes_row _ _ _ (List.take 0 []) _ (take_sl S5.out.th 0) HTK.out HTL.out).mono ?_
    rintro e w6 ⟨T6, d6, rfl, h6, hb6⟩
    have H6 := Lib.hid h6
    have H56 := Lib.hid (H5.out.below hb6)
    have Y6 := Lib.hid (Y5.out.below hb6)
    have S6 := Lib.hid (S5.out.below hb6)
    clear h6 hb6
    go_wp2_with fail
    refine (ours_sl _ _ _ _ H6.out.at_ (writes_len _)).mono ?_
    rintro e w7 ⟨T7, d7, rfl, h7, hb7⟩
    have H7 := Lib.hid h7
    have H57 := Lib.hid (H56.out.below hb7)
    have Y7 := Lib.hid (Y6.out.below hb7)
    have S7 := Lib.hid (S6.out.below hb7)
    clear h7 hb7
    go_wp2_with fail
    refine (same_yes _ _ _ _ _ _ H57.out.at_ H7.out.at_ (writes_len _)).mono ?_
    rintro e w8 ⟨rfl, hb8⟩
    have Y8 := Lib.hid (Y7.out.below hb8)
    have S8 := Lib.hid (S7.out.below hb8)
    clear hb8
    go_wp2_with fail
    refine (reads_as _ _ (backL [] 0) (readsL []) _ Y8.out.at_ HBL.out (reads_back [] 0)).mono ?_
    rintro e w9 ⟨T9, d9, rfl, h9, hb9⟩
    have H9 := Lib.hid h9
    have Y9 := Lib.hid (Y8.out.below hb9)
    have S9 := Lib.hid (S8.out.below hb9)
    clear h9 hb9
    go_wp2_with fail
    refine (ours_sl _ _ _ _ H9.out.at_ (reads_len _)).mono ?_
    rintro e wa ⟨Ta, da, rfl, ha, hba⟩
    have Ha := Lib.hid ha
    have Ya := Lib.hid (Y9.out.below hba)
    have Sa := Lib.hid (S9.out.below hba)
    clear ha hba
    go_wp2_with fail
    refine (reads_any _ _ [] _ Sa.out.th.at_ HL.out).mono ?_
    rintro e wb ⟨Tb, db, rfl, hb, hbb⟩
    have Hb := Lib.hid hb
    have Hab := Lib.hid (Ha.out.below hbb)
    have Yb := Lib.hid (Ya.out.below hbb)
    have Sb := Lib.hid (Sa.out.below hbb)
    clear hb hbb
    go_wp2_with fail
    refine (ours_sl _ _ _ _ Hb.out.at_ (reads_len _)).mono ?_
    rintro e wc ⟨Tc, dc, rfl, hc, hbc⟩
    have Hc := Lib.hid hc
    have Hac := Lib.hid (Hab.out.below hbc)
    have Yc := Lib.hid (Yb.out.below hbc)
    have Sc := Lib.hid (Sb.out.below hbc)
    clear hc hbc
    go_wp2_with fail
    refine (same_yes _ _ _ _ _ _ Hac.out.at_ Hc.out.at_ (reads_len _)).mono ?_
    rintro e wd ⟨rfl, hbd⟩
    have Yd := Lib.hid (Yc.out.below hbd)
    have Sd := Lib.hid (Sc.out.below hbd)
    clear hbd
    go_wp2_with fail
    refine (back_as _ _ 0 (backL [] 0) (backL [] 0) _ Yd.out HBL.out (back_ge HK.out) (back_back HK.out)).mono ?_
    rintro e we ⟨Te, de, rfl, he, hbe⟩
    have He := Lib.hid he
    have Ye := Lib.hid (Yd.out.below hbe)
    have Se := Lib.hid (Sd.out.below hbe)
    clear he hbe
    go_wp2_with fail
    refine (ours_sl _ _ _ _ He.out.at_ HBL.out).mono ?_
    rintro e wf ⟨Tf, df, rfl, hf, hbf⟩
    have Hf := Lib.hid hf
    have Yf := Lib.hid (Ye.out.below hbf)
    have Sf := Lib.hid (Se.out.below hbf)
    clear hf hbf
    go_wp2_with fail
    refine (ours_sl _ _ _ _ Yf.out.at_ HBL.out).mono ?_
    rintro e wg ⟨Tg, dg, rfl, hg, hbg⟩
    have Hg := Lib.hid hg
    have Hfg := Lib.hid (Hf.out.below hbg)
    have Sg := Lib.hid (Sf.out.below hbg)
    clear hg hbg
    go_wp2_with fail
    refine (same_yes _ _ _ _ _ _ Hfg.out.at_ Hg.out.at_ HBL.out).mono ?_
    rintro e wh ⟨rfl, hbh⟩
    have Sh := Lib.hid (Sg.out.below hbh)
    clear hbh
    go_wp2
    go_ret
    exact ⟨rfl, Sh.out.bel⟩
  · go_wp2_with fail
    refine (back_as _ _ k L (backL L k) _ S2.out.th HL.out HK.out rfl).mono ?_
    rintro e w3 ⟨T3, d3, rfl, h3, hb3⟩
    have H3 := Lib.hid h3
    have S3 := Lib.hid (S2.out.below hb3)
    clear h3 hb3
    go_wp2_with fail
    refine (writes_as _ _ (backL L k) (writesL (List.take k L)) _ H3.out.at_ HBL.out (writes_back L k)).mono ?_
    rintro e w4 ⟨T4, d4, rfl, h4, hb4⟩
    have H4 := Lib.hid h4
    have Y4 := Lib.hid (H3.out.below hb4)
    have S4 := Lib.hid (S3.out.below hb4)
    clear h4 hb4
    go_wp2_with fail
    refine (ours_sl _ _ _ _ H4.out.at_ (writes_len _)).mono ?_
    rintro e w5 ⟨T5, d5, rfl, h5, hb5⟩
    have H5 := Lib.hid h5
    have Y5 := Lib.hid (Y4.out.below hb5)
    have S5 := Lib.hid (S4.out.below hb5)
    clear h5 hb5
    go_wp2_with fail
    refine (writes_row _ _ _ (List.take k L) _ (take_sl S5.out.th k) HTK.out HTL.out).mono ?_
    rintro e w6 ⟨T6, d6, rfl, h6, hb6⟩
    have H6 := Lib.hid h6
    have H56 := Lib.hid (H5.out.below hb6)
    have Y6 := Lib.hid (Y5.out.below hb6)
    have S6 := Lib.hid (S5.out.below hb6)
    clear h6 hb6
    go_wp2_with fail
    refine (ours_sl _ _ _ _ H6.out.at_ (writes_len _)).mono ?_
    rintro e w7 ⟨T7, d7, rfl, h7, hb7⟩
    have H7 := Lib.hid h7
    have H57 := Lib.hid (H56.out.below hb7)
    have Y7 := Lib.hid (Y6.out.below hb7)
    have S7 := Lib.hid (S6.out.below hb7)
    clear h7 hb7
    go_wp2_with fail
    refine (same_yes _ _ _ _ _ _ H57.out.at_ H7.out.at_ (writes_len _)).mono ?_
    rintro e w8 ⟨rfl, hb8⟩
    have Y8 := Lib.hid (Y7.out.below hb8)
    have S8 := Lib.hid (S7.out.below hb8)
    clear hb8
    go_wp2_with fail
    refine (reads_as _ _ (backL L k) (readsL L) _ Y8.out.at_ HBL.out (reads_back L k)).mono ?_
    rintro e w9 ⟨T9, d9, rfl, h9, hb9⟩
    have H9 := Lib.hid h9
    have Y9 := Lib.hid (Y8.out.below hb9)
    have S9 := Lib.hid (S8.out.below hb9)
    clear h9 hb9
    go_wp2_with fail
    refine (ours_sl _ _ _ _ H9.out.at_ (reads_len _)).mono ?_
    rintro e wa ⟨Ta, da, rfl, ha, hba⟩
    have Ha := Lib.hid ha
    have Ya := Lib.hid (Y9.out.below hba)
    have Sa := Lib.hid (S9.out.below hba)
    clear ha hba
    go_wp2_with fail
    refine (reads_any _ _ L _ Sa.out.th.at_ HL.out).mono ?_
    rintro e wb ⟨Tb, db, rfl, hb, hbb⟩
    have Hb := Lib.hid hb
    have Hab := Lib.hid (Ha.out.below hbb)
    have Yb := Lib.hid (Ya.out.below hbb)
    have Sb := Lib.hid (Sa.out.below hbb)
    clear hb hbb
    go_wp2_with fail
    refine (ours_sl _ _ _ _ Hb.out.at_ (reads_len _)).mono ?_
    rintro e wc ⟨Tc, dc, rfl, hc, hbc⟩
    have Hc := Lib.hid hc
    have Hac := Lib.hid (Hab.out.below hbc)
    have Yc := Lib.hid (Yb.out.below hbc)
    have Sc := Lib.hid (Sb.out.below hbc)
    clear hc hbc
    go_wp2_with fail
    refine (same_yes _ _ _ _ _ _ Hac.out.at_ Hc.out.at_ (reads_len _)).mono ?_
    rintro e wd ⟨rfl, hbd⟩
    have Yd := Lib.hid (Yc.out.below hbd)
    have Sd := Lib.hid (Sc.out.below hbd)
    clear hbd
    go_wp2_with fail
    refine (back_as _ _ k (backL L k) (backL L k) _ Yd.out HBL.out (back_ge HK.out) (back_back HK.out)).mono ?_
    rintro e we ⟨Te, de, rfl, he, hbe⟩
    have He := Lib.hid he
    have Ye := Lib.hid (Yd.out.below hbe)
    have Se := Lib.hid (Sd.out.below hbe)
    clear he hbe
    go_wp2_with fail
    refine (ours_sl _ _ _ _ He.out.at_ HBL.out).mono ?_
    rintro e wf ⟨Tf, df, rfl, hf, hbf⟩
    have Hf := Lib.hid hf
    have Yf := Lib.hid (Ye.out.below hbf)
    have Sf := Lib.hid (Se.out.below hbf)
    clear hf hbf
    go_wp2_with fail
    refine (ours_sl _ _ _ _ Yf.out.at_ HBL.out).mono ?_
    rintro e wg ⟨Tg, dg, rfl, hg, hbg⟩
    have Hg := Lib.hid hg
    have Hfg := Lib.hid (Hf.out.below hbg)
    have Sg := Lib.hid (Sf.out.below hbg)
    clear hg hbg
    go_wp2_with fail
    refine (same_yes _ _ _ _ _ _ Hfg.out.at_ Hg.out.at_ HBL.out).mono ?_
    rintro e wh ⟨rfl, hbh⟩
    have Sh := Lib.hid (Sg.out.below hbh)
    clear hbh
    go_wp2
    go_ret
    exact ⟨rfl, Sh.out.bel⟩
end Go.Proofs.Ytgnajfijecmecaa.Tx
