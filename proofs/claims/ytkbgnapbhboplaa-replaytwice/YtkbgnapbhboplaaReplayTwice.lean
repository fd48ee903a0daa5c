/-
  The walk of ReplayTwice.
-/
import Derived.Test.YtkbgnapbhboplaaRepLaw
namespace Go.Proofs.Ytkbgnapbhboplaa.Rp
open Go.RowKit Tx
theorem vtX_eq (W : World) (v : Value) : True := trivial
/-- what two rounds come to. -/
theorem twice_cases (S : List Vp) (l : List Ent) :
    (0 ≤ allN S l ∧ allN S (l ++ l) = allN S l ∧ allS S (l ++ l) = allS S l) ∨
    (allN S l = -1 ∧ ((0 ≤ allN (allS S l) l ∧ allN S (l ++ l) = (l.length : Int) + allN (allS S l) l ∧ allS S (l ++ l) = allS (allS S l) l) ∨
      (allN (allS S l) l = -1 ∧ allN S (l ++ l) = -1 ∧ allS S (l ++ l) = allS S l ∧ allS (allS S l) l = allS S l))) := by
  cases h : allI S l with
  | some k =>
    obtain ⟨h1, h2⟩ := twice_no h
    exact .inl ⟨by rw [allN_some h]; omega, by rw [allN_some h, allN_some h1], h2⟩
  | none =>
    obtain ⟨h1, h2⟩ := twice_yes h
    refine .inr ⟨allN_none h, ?_⟩
    cases h3 : allI (allS S l) l with
    | some k =>
      rw [h3] at h1
      exact .inl ⟨by rw [allN_some h3]; omega, by rw [allN_some h1, allN_some h3]; simp; omega, h2⟩
    | none =>
      rw [h3] at h1
      exact .inr ⟨allN_none h3, allN_none h1, h2.trans (twice_same h h3), twice_same h h3⟩
set_option maxHeartbeats 4000000 in
set_option maxRecDepth 100000 in
theorem replayTwice_walk (A B : Option Addr) (n c m d : Nat) (S : List Vp) (X : List Xc) (w : World) (h0 : ValArg w A n c S) (h1 : EntArg w B m d X) :
    Calls Try.prog 7 #[.slice A n c, .slice B m d] w fun e w' => e = .returned (.bool true) ∧ Below w.heap.size w w' := by
  obtain ⟨rfl, hc, hm, hA, _⟩ := h0
  obtain ⟨L, rfl, hd, hm2, hB, _⟩ := h1.open_
  have HA := Lib.hid hA
  have HB := Lib.hid hB
  have hN : (S.length : Int) ≤ 9223372036854775807 := by unfold maxLen at hm; omega
  have hM : (L.length : Int) ≤ 9223372036854775807 := by unfold maxLen at hm2; omega
  clear hA hB hc hm hd hm2 h1
  go_enter Try.func7, Try.ntmps7
  go_wp2_with fail
  refine (alive_any _).mono ?_
  rintro e w1 ⟨rfl, hb1⟩
  have S1 := Lib.hid (show ArgSt A B S X L w w1 from ⟨HA.out.below hb1 (Nat.le_refl _), HB.out.below hb1 (Nat.le_refl _), hb1⟩)
  clear hb1
  go_wp2_with fail
  refine (heavy_any A B c d S.length X L _ S1.out.ents hN hM (fun x hx => ⟨(S1.out.ents.rd x hx).rd.max, (S1.out.ents.rd x hx).wt.max⟩)).mono ?_
  rintro e w2 ⟨rfl, hb2⟩
  have S2 := Lib.hid (S1.out.below hb2)
  clear hb2
  cases hh : heavy S.length L with
  | true =>
    clear hh
    go_wp2
    go_ret
    exact ⟨rfl, S2.out.bel⟩
  | false =>
    obtain ⟨hf, hs, hl⟩ := heavy_no hh
    have HF := Lib.hid hf
    have hs3 : S.length ≤ 300 := by omega
    have hl4 : L.length ≤ 10000 := by omega
    clear hh hf
    obtain ⟨SA, hSA⟩ : ∃ Z, allS S L = Z := ⟨_, rfl⟩
    obtain ⟨iN, hiN⟩ : ∃ Z, allN S L = Z := ⟨_, rfl⟩
    obtain ⟨LL, hLL⟩ : ∃ Z, L ++ L = Z := ⟨_, rfl⟩
    obtain ⟨SB, hSB⟩ : ∃ Z, allS S LL = Z := ⟨_, rfl⟩
    obtain ⟨kN, hkN⟩ : ∃ Z, allN S LL = Z := ⟨_, rfl⟩
    obtain ⟨SC, hSC⟩ : ∃ Z, allS SA L = Z := ⟨_, rfl⟩
    obtain ⟨mN, hmN⟩ : ∃ Z, allN SA L = Z := ⟨_, rfl⟩
    have hcs := twice_cases S L
    rw [hLL, hSA, hiN, hSB, hkN, hSC, hmN] at hcs
    have hlA : SA.length = S.length := by rw [← hSA, allS_len]
    have hlB : SB.length = S.length := by rw [← hSB, allS_len]
    have hlC : SC.length = S.length := by rw [← hSC, allS_len, hlA]
    have hle := (allN_le SA L).1
    rw [hmN] at hle
    have hSA3 : SA.length ≤ 300 := by omega
    have hSB3 : SB.length ≤ 300 := by omega
    have hSC3 : SC.length ≤ 300 := by omega
    have hLL5 : LL.length ≤ 10000 := by rw [← hLL, List.length_append]; omega
    have HFL := Lib.hid (show few LL by rw [← hLL]; exact few_twice HF.out)
    have ELL := Lib.hid hLL
    clear hLL
    have ESA := Lib.hid hSA
    have EiN := Lib.hid hiN
    have ESB := Lib.hid hSB
    have EkN := Lib.hid hkN
    have ESC := Lib.hid hSC
    have EmN := Lib.hid hmN
    have CS := Lib.hid hcs
    have HLE := Lib.hid hle
    clear hSA hiN hSB hkN hSC hmN hcs hlA hlB hlC hle
    go_wp2_with fail
    refine (theirsV_s A c S _ S2.out.vals hs3).mono ?_
    rintro e w3 ⟨T, tc, rfl, hT, hb⟩
    have S_3 := Lib.hid (S2.out.below hb)
    have T_3 := Lib.hid hT
    clear hT hb
    go_wp2_with fail
    refine (entries_s B d X L _ S_3.out.ents HF.out hl4).mono ?_
    rintro e w4 ⟨U, uc, X2, rfl, hu1, hu2, hU, hb⟩
    have S_4 := Lib.hid (S_3.out.below hb)
    have T_4 := Lib.hid (at_below T_3.out hb)
    have U_4 := Lib.hid hU
    clear hU hb
    clear hu1 hu2
    go_wp2_with fail
    refine (all_s T U tc uc S SA iN X2 L _ T_4.out U_4.out HF.out hl4 hs3 ESA.out EiN.out).mono ?_
    rintro e w5 ⟨R, rc, rfl, hR, hb⟩
    have S_5 := Lib.hid (S_4.out.below hb)
    have T_5 := Lib.hid (at_below T_4.out hb)
    have U_5 := Lib.hid (it_below U_4.out hb)
    have R_5 := Lib.hid hR
    clear hR hb
    have HXL := Lib.hid (show X2.length = L.length from U_5.out.len)
    go_wp2_with (at_builtin; refine append_rowG' encX vtX rfl _ _ rfl rfl (Rn.Own.nil w5 w5.heap.size 41) U uc X2 HXL.out rfl U_5.out.row ?c1 (Nat.le_refl _) ?_)
    case c1 => have := HXL.out; simp; omega
    intro v7 w7 hr7 hg7
    have hb := grown_below (Rn.Own.nil (E := encX) w5 w5.heap.size 41) hg7 (Nat.le_refl _)
    have S_7 := Lib.hid (S_5.out.below hb)
    have T_7 := Lib.hid (at_below T_5.out hb)
    have U_7 := Lib.hid (it_below U_5.out hb)
    have R_7 := Lib.hid (at_below R_5.out hb)
    have R7 := Lib.hid hr7
    have BG := Lib.hid hb
    clear hr7 hg7 hb
    go_wp2_with (at_builtin; refine append_rowG' encX vtX rfl _ _ rfl rfl R7.out U uc X2 HXL.out rfl U_7.out.row ?d1 ?d2 ?_)
    case d1 => have := HXL.out; simp; omega
    case d2 => have := (show w5.heap.size ≤ w7.heap.size from BG.out.size); omega
    intro v8 w8 hr8 hg8
    have hb8 : Below w5.heap.size w5 w8 := BG.out.trans (grown_below R7.out hg8 BG.out.size)
    obtain ⟨D, dc, rfl, _, _, hD, _⟩ := hr8.slice
    have hl2 : (X2 ++ X2).length = LL.length := by rw [← ELL.out, List.length_append, List.length_append, HXL.out]
    have HD8 := Lib.hid (show ItAt w8 D (X2 ++ X2) LL from ⟨hD, by rw [← ELL.out, List.map_append, U_5.out.es], fun x hx => (U_5.out.rd x (by simpa using hx)).below hb8 (Nat.le_refl _)⟩)
    rw [hl2]
    have S_8 := Lib.hid (S_5.out.below hb8)
    have T_8 := Lib.hid (at_below T_5.out hb8)
    have U_8 := Lib.hid (it_below U_5.out hb8)
    have R_8 := Lib.hid (at_below R_5.out hb8)
    clear hr8 hg8 hb8 hD hl2
    go_wp2_with fail
    refine (all_s T D tc dc S SB kN _ LL _ T_8.out HD8.out HFL.out hLL5 hs3 ESB.out EkN.out).mono ?_
    rintro e w9 ⟨Q, qc, rfl, hQ, hb⟩
    have S_9 := Lib.hid (S_8.out.below hb)
    have T_9 := Lib.hid (at_below T_8.out hb)
    have U_9 := Lib.hid (it_below U_8.out hb)
    have R_9 := Lib.hid (at_below R_8.out hb)
    have D_9 := Lib.hid (it_below HD8.out hb)
    have Q_9 := Lib.hid hQ
    clear hQ hb
    have hcs := CS.out
    rcases hcs with ⟨hi, rfl, rfl⟩ | ⟨rfl, hcs⟩
    · have hi' : kN ≥ 0 := hi
      go_wp2_with fail
      refine (valuesV_s _ _ _ _ R_9.out (by omega)).mono ?_
      rintro e w10 ⟨VA, va, rfl, hV, hb⟩
      have S_10 := Lib.hid (S_9.out.below hb)
      have T_10 := Lib.hid (at_below T_9.out hb)
      have U_10 := Lib.hid (it_below U_9.out hb)
      have R_10 := Lib.hid (at_below R_9.out hb)
      have D_10 := Lib.hid (it_below D_9.out hb)
      have Q_10 := Lib.hid (at_below Q_9.out hb)
      have ya_10 := Lib.hid hV
      clear hV hb
      go_wp2_with fail
      refine (valuesV_s _ _ _ _ Q_10.out (by omega)).mono ?_
      rintro e w11 ⟨VB, vb, rfl, hV, hb⟩
      have S_11 := Lib.hid (S_10.out.below hb)
      have T_11 := Lib.hid (at_below T_10.out hb)
      have U_11 := Lib.hid (it_below U_10.out hb)
      have R_11 := Lib.hid (at_below R_10.out hb)
      have D_11 := Lib.hid (it_below D_10.out hb)
      have Q_11 := Lib.hid (at_below Q_10.out hb)
      have ya_11 := Lib.hid (at_below ya_10.out hb)
      have yb_11 := Lib.hid hV
      clear hV hb
      go_wp2_with fail
      refine (vsame_yes _ _ _ _ _ _ ya_11.out yb_11.out (by omega)).mono ?_
      rintro e w12 ⟨rfl, hb⟩
      have S_12 := Lib.hid (S_11.out.below hb)
      have T_12 := Lib.hid (at_below T_11.out hb)
      have U_12 := Lib.hid (it_below U_11.out hb)
      have R_12 := Lib.hid (at_below R_11.out hb)
      have D_12 := Lib.hid (it_below D_11.out hb)
      have Q_12 := Lib.hid (at_below Q_11.out hb)
      have ya_12 := Lib.hid (at_below ya_11.out hb)
      have yb_12 := Lib.hid (at_below yb_11.out hb)
      clear  hb
      go_wp2
      go_ret
      exact ⟨rfl, S_12.out.bel⟩
    · go_wp2_with fail
      refine (all_s R U rc uc SA SC mN X2 L _ R_9.out U_9.out HF.out hl4 hSA3 ESC.out EmN.out).mono ?_
      rintro e w10 ⟨P, pc, rfl, hP, hb⟩
      have S_10 := Lib.hid (S_9.out.below hb)
      have T_10 := Lib.hid (at_below T_9.out hb)
      have U_10 := Lib.hid (it_below U_9.out hb)
      have R_10 := Lib.hid (at_below R_9.out hb)
      have D_10 := Lib.hid (it_below D_9.out hb)
      have Q_10 := Lib.hid (at_below Q_9.out hb)
      have P_10 := Lib.hid hP
      clear hP hb
      rcases hcs with ⟨hm0, rfl, rfl⟩ | ⟨rfl, rfl, rfl, rfl⟩
      · have hm1 : mN ≥ 0 := hm0
        have hm2 : mN ≤ (L.length : Int) := HLE.out
        have hsum : (L.length : Int) + mN ≤ 9223372036854775807 := by omega
        go_wp2_with fail
        refine (valuesV_s _ _ _ _ P_10.out (by omega)).mono ?_
        rintro e w11 ⟨VA, va, rfl, hV, hb⟩
        have S_11 := Lib.hid (S_10.out.below hb)
        have T_11 := Lib.hid (at_below T_10.out hb)
        have U_11 := Lib.hid (it_below U_10.out hb)
        have R_11 := Lib.hid (at_below R_10.out hb)
        have D_11 := Lib.hid (it_below D_10.out hb)
        have Q_11 := Lib.hid (at_below Q_10.out hb)
        have P_11 := Lib.hid (at_below P_10.out hb)
        have ya_11 := Lib.hid hV
        clear hV hb
        go_wp2_with fail
        refine (valuesV_s _ _ _ _ Q_11.out (by omega)).mono ?_
        rintro e w12 ⟨VB, vb, rfl, hV, hb⟩
        have S_12 := Lib.hid (S_11.out.below hb)
        have T_12 := Lib.hid (at_below T_11.out hb)
        have U_12 := Lib.hid (it_below U_11.out hb)
        have R_12 := Lib.hid (at_below R_11.out hb)
        have D_12 := Lib.hid (it_below D_11.out hb)
        have Q_12 := Lib.hid (at_below Q_11.out hb)
        have P_12 := Lib.hid (at_below P_11.out hb)
        have ya_12 := Lib.hid (at_below ya_11.out hb)
        have yb_12 := Lib.hid hV
        clear hV hb
        go_wp2_with fail
        refine (vsame_yes _ _ _ _ _ _ ya_12.out yb_12.out (by omega)).mono ?_
        rintro e w13 ⟨rfl, hb⟩
        have S_13 := Lib.hid (S_12.out.below hb)
        have T_13 := Lib.hid (at_below T_12.out hb)
        have U_13 := Lib.hid (it_below U_12.out hb)
        have R_13 := Lib.hid (at_below R_12.out hb)
        have D_13 := Lib.hid (it_below D_12.out hb)
        have Q_13 := Lib.hid (at_below Q_12.out hb)
        have P_13 := Lib.hid (at_below P_12.out hb)
        have ya_13 := Lib.hid (at_below ya_12.out hb)
        have yb_13 := Lib.hid (at_below yb_12.out hb)
        clear  hb
        go_wp2
        go_ret
        exact ⟨rfl, S_13.out.bel⟩
      · go_wp2_with fail
        refine (valuesV_s _ _ _ _ P_10.out (by omega)).mono ?_
        rintro e w11 ⟨VA, va, rfl, hV, hb⟩
        have S_11 := Lib.hid (S_10.out.below hb)
        have T_11 := Lib.hid (at_below T_10.out hb)
        have U_11 := Lib.hid (it_below U_10.out hb)
        have R_11 := Lib.hid (at_below R_10.out hb)
        have D_11 := Lib.hid (it_below D_10.out hb)
        have Q_11 := Lib.hid (at_below Q_10.out hb)
        have P_11 := Lib.hid (at_below P_10.out hb)
        have ya_11 := Lib.hid hV
        clear hV hb
        go_wp2_with fail
        refine (valuesV_s _ _ _ _ Q_11.out (by omega)).mono ?_
        rintro e w12 ⟨VB, vb, rfl, hV, hb⟩
        have S_12 := Lib.hid (S_11.out.below hb)
        have T_12 := Lib.hid (at_below T_11.out hb)
        have U_12 := Lib.hid (it_below U_11.out hb)
        have R_12 := Lib.hid (at_below R_11.out hb)
        have D_12 := Lib.hid (it_below D_11.out hb)
        have Q_12 := Lib.hid (at_below Q_11.out hb)
        have P_12 := Lib.hid (at_below P_11.out hb)
        have ya_12 := Lib.hid (at_below ya_11.out hb)
        have yb_12 := Lib.hid hV
        clear hV hb
        go_wp2_with fail
        refine (vsame_yes _ _ _ _ _ _ ya_12.out yb_12.out (by omega)).mono ?_
        rintro e w13 ⟨rfl, hb⟩
        have S_13 := Lib.hid (S_12.out.below hb)
        have T_13 := Lib.hid (at_below T_12.out hb)
        have U_13 := Lib.hid (it_below U_12.out hb)
        have R_13 := Lib.hid (at_below R_12.out hb)
        have D_13 := Lib.hid (it_below D_12.out hb)
        have Q_13 := Lib.hid (at_below Q_12.out hb)
        have P_13 := Lib.hid (at_below P_12.out hb)
        have ya_13 := Lib.hid (at_below ya_12.out hb)
        have yb_13 := Lib.hid (at_below yb_12.out hb)
        clear  hb
        go_wp2_with fail
        refine (valuesV_s _ _ _ _ P_13.out (by omega)).mono ?_
        rintro e w14 ⟨VA, va, rfl, hV, hb⟩
        have S_14 := Lib.hid (S_13.out.below hb)
        have T_14 := Lib.hid (at_below T_13.out hb)
        have U_14 := Lib.hid (it_below U_13.out hb)
        have R_14 := Lib.hid (at_below R_13.out hb)
        have D_14 := Lib.hid (it_below D_13.out hb)
        have Q_14 := Lib.hid (at_below Q_13.out hb)
        have P_14 := Lib.hid (at_below P_13.out hb)
        have ya_14 := Lib.hid hV
        clear hV hb
        go_wp2_with fail
        refine (valuesV_s _ _ _ _ R_14.out (by omega)).mono ?_
        rintro e w15 ⟨VB, vb, rfl, hV, hb⟩
        have S_15 := Lib.hid (S_14.out.below hb)
        have T_15 := Lib.hid (at_below T_14.out hb)
        have U_15 := Lib.hid (it_below U_14.out hb)
        have R_15 := Lib.hid (at_below R_14.out hb)
        have D_15 := Lib.hid (it_below D_14.out hb)
        have Q_15 := Lib.hid (at_below Q_14.out hb)
        have P_15 := Lib.hid (at_below P_14.out hb)
        have ya_15 := Lib.hid (at_below ya_14.out hb)
        have yb_15 := Lib.hid hV
        clear hV hb
        go_wp2_with fail
        refine (vsame_yes _ _ _ _ _ _ ya_15.out yb_15.out (by omega)).mono ?_
        rintro e w16 ⟨rfl, hb⟩
        have S_16 := Lib.hid (S_15.out.below hb)
        have T_16 := Lib.hid (at_below T_15.out hb)
        have U_16 := Lib.hid (it_below U_15.out hb)
        have R_16 := Lib.hid (at_below R_15.out hb)
        have D_16 := Lib.hid (it_below D_15.out hb)
        have Q_16 := Lib.hid (at_below Q_15.out hb)
        have P_16 := Lib.hid (at_below P_15.out hb)
        have ya_16 := Lib.hid (at_below ya_15.out hb)
        have yb_16 := Lib.hid (at_below yb_15.out hb)
        clear  hb
        go_wp2
        go_ret
        exact ⟨rfl, S_16.out.bel⟩
end Go.Proofs.Ytkbgnapbhboplaa.Rp
