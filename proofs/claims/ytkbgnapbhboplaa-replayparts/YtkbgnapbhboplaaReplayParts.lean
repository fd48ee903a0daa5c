/-
  The walk of ReplayParts.
-/
import Derived.Test.YtkbgnapbhboplaaRepLaw
import Derived.Test.YtkbgnapbhboplaaAnyZ
namespace Go.Proofs.Ytkbgnapbhboplaa.Rp
open Go.RowKit Tx Az
/-- what a row comes to by its parts. -/
theorem parts_cases (S : List Vp) (l m : List Ent) :
    (0 ≤ allN S l ∧ allN S (l ++ m) = allN S l ∧ allS S (l ++ m) = allS S l) ∨
    (allN S l = -1 ∧ ((0 ≤ allN (allS S l) m ∧ allN S (l ++ m) = (l.length : Int) + allN (allS S l) m ∧ allS S (l ++ m) = allS (allS S l) m) ∨
      (allN (allS S l) m = -1 ∧ allN S (l ++ m) = -1 ∧ allS S (l ++ m) = allS (allS S l) m ∧ allN S ((l ++ m).filter (·.com)) = -1 ∧ allS S ((l ++ m).filter (·.com)) = allS S (l ++ m)))) := by
  have h1 := allI_append S l m
  have h2 := allS_append (S := S) (l := l) (m := m)
  cases h : allI S l with
  | some k =>
    rw [h] at h1 h2
    exact .inl ⟨by rw [allN_some h]; omega, by rw [allN_some h, allN_some h1], h2⟩
  | none =>
    rw [h] at h1 h2
    refine .inr ⟨allN_none h, ?_⟩
    cases h3 : allI (allS S l) m with
    | some k =>
      rw [h3] at h1
      exact .inl ⟨by rw [allN_some h3]; omega, by rw [allN_some h1, allN_some h3]; simp; omega, h2⟩
    | none =>
      rw [h3] at h1
      have h4 := allI_com (show allI S (l ++ m) = none from h1)
      exact .inr ⟨allN_none h3, allN_none h1, h2, allN_none h4.1, h4.2⟩
/-- what the first two calls want. -/
structure PSt (A B : Option Addr) (S : List Vp) (X : List Xc) (L : List Ent) (T2 : Option Addr) (w W : World) : Prop where
  st : ArgSt A B S X L w W
  v : Rn.At encV W T2 S
theorem PSt.below {A B : Option Addr} {S : List Vp} {X : List Xc} {L : List Ent} {T2 : Option Addr} {w W W' : World} (h : PSt A B S X L T2 w W) (hb : Below W.heap.size W W') : PSt A B S X L T2 w W' := ⟨h.st.below hb, at_below h.v hb⟩
set_option maxHeartbeats 4000000 in
set_option maxRecDepth 100000 in
theorem replayParts_walk (A B : Option Addr) (n c m d a : Nat) (S : List Vp) (X : List Xc) (w : World) (h0 : ValArg w A n c S) (h1 : EntArg w B m d X) (ha : a < 256) :
    Calls Try.prog 5 #[.slice A n c, .slice B m d, .int .u8 (a : Nat)] w fun e w' => e = .returned (.bool true) ∧ Below w.heap.size w w' := by
  obtain ⟨rfl, hc, hm, hA, _⟩ := h0
  obtain ⟨L, rfl, hd, hm2, hB, hnil⟩ := h1.open_
  have HA := Lib.hid hA
  have HB := Lib.hid hB
  have HNIL := Lib.hid hnil
  have HD := Lib.hid hd
  have hN : (S.length : Int) ≤ 9223372036854775807 := by unfold maxLen at hm; omega
  have hM : (L.length : Int) ≤ 9223372036854775807 := by unfold maxLen at hm2; omega
  have hdI : (d : Int) ≤ 9223372036854775807 := by unfold maxLen at hm2; omega
  clear hA hB hc hm hd hm2 h1 hnil
  go_enter Try.func5, Try.ntmps5
  go_wp2_with fail
  refine (alive_any _).mono ?_
  rintro e w1 ⟨rfl, hb1⟩
  have S1 := Lib.hid (show ArgSt A B S X L w w1 from ⟨HA.out.below hb1 (Nat.le_refl _), HB.out.below hb1 (Nat.le_refl _), hb1⟩)
  clear hb1
  go_wp2_with fail
  refine (heavy_any A B c d S.length X L _ S1.out.ents hN hM (fun x hx => ⟨(S1.out.ents.rd x hx).rd.max, (S1.out.ents.rd x hx).wt.max⟩)).mono ?_
  rintro e w2 ⟨rfl, hb2⟩
  have S2 := Lib.hid (S1.out.below hb2)
  clear hb2
  cases hh : heavy S.length L with
  | true =>
    clear hh
    go_wp2
    go_ret
    exact ⟨rfl, S2.out.bel⟩
  | false =>
    obtain ⟨hf, hs, hl⟩ := heavy_no hh
    have HF := Lib.hid hf
    have hs3 : S.length ≤ 300 := by omega
    have hl4 : L.length ≤ 10000 := by omega
    clear hh hf
    obtain ⟨k, hk⟩ : ∃ k, k = a % (L.length + 1) := ⟨_, rfl⟩
    have hkl : k ≤ L.length := by rw [hk]; have := Nat.mod_lt a (show 0 < L.length + 1 by omega); omega
    have hrem : ((a : Int) % ((L.length : Int) + 1)) = (k : Int) := by rw [hk, Int.natCast_emod, Int.natCast_add]; rfl
    obtain ⟨L1, hL1⟩ : ∃ Z, L.take k = Z := ⟨_, rfl⟩
    obtain ⟨L2, hL2⟩ : ∃ Z, L.drop k = Z := ⟨_, rfl⟩
    have hl1 : L1.length = k := by rw [← hL1, List.length_take]; omega
    have hl2 : L2.length = L.length - k := by rw [← hL2, List.length_drop]
    have hLL : L1 ++ L2 = L := by rw [← hL1, ← hL2, List.take_append_drop]
    have HL1 := Lib.hid hL1
    have HL2 := Lib.hid hL2
    clear hL1 hL2 hk
    subst hl1
    obtain ⟨SA, hSA⟩ : ∃ Z, allS S L = Z := ⟨_, rfl⟩
    obtain ⟨iN, hiN⟩ : ∃ Z, allN S L = Z := ⟨_, rfl⟩
    obtain ⟨S1', hS1⟩ : ∃ Z, allS S L1 = Z := ⟨_, rfl⟩
    obtain ⟨jN, hjN⟩ : ∃ Z, allN S L1 = Z := ⟨_, rfl⟩
    obtain ⟨SB, hSB⟩ : ∃ Z, allS S1' L2 = Z := ⟨_, rfl⟩
    obtain ⟨mN, hmN⟩ : ∃ Z, allN S1' L2 = Z := ⟨_, rfl⟩
    obtain ⟨M, hMM⟩ : ∃ Z, L.filter (·.com) = Z := ⟨_, rfl⟩
    obtain ⟨SC, hSC⟩ : ∃ Z, allS S M = Z := ⟨_, rfl⟩
    obtain ⟨nN, hnN⟩ : ∃ Z, allN S M = Z := ⟨_, rfl⟩
    have hcs := parts_cases S L1 L2
    rw [hLL, hSA, hiN, hS1, hjN, hSB, hmN, hMM, hSC, hnN] at hcs
    have hlA : SA.length = S.length := by rw [← hSA, allS_len]
    have hl1' : S1'.length = S.length := by rw [← hS1, allS_len]
    have hlB : SB.length = S.length := by rw [← hSB, allS_len, hl1']
    have hlC : SC.length = S.length := by rw [← hSC, allS_len]
    have hle := (allN_le S1' L2).1
    rw [hmN] at hle
    have hSA3 : SA.length ≤ 300 := by omega
    have hS13 : S1'.length ≤ 300 := by omega
    have hSB3 : SB.length ≤ 300 := by omega
    have hSC3 : SC.length ≤ 300 := by omega
    have hM4 : M.length ≤ 10000 := by rw [← hMM]; have := List.length_filter_le (fun e : Ent => e.com) L; omega
    have HFM := Lib.hid (show few M by rw [← hMM]; exact few_filter HF.out)
    have HF1 := Lib.hid (show few L1 by rw [← HL1.out]; exact few_take HF.out _)
    have HF2 := Lib.hid (show few L2 by rw [← HL2.out]; exact few_drop HF.out _)
    have hL14 : L1.length ≤ 10000 := by omega
    have hL24 : L2.length ≤ 10000 := by omega
    have HLL := Lib.hid hLL
    have H2L := Lib.hid hl2
    have ESA := Lib.hid hSA
    have EiN := Lib.hid hiN
    have ES1 := Lib.hid hS1
    have EjN := Lib.hid hjN
    have ESB := Lib.hid hSB
    have EmN := Lib.hid hmN
    have ESC := Lib.hid hSC
    have EnN := Lib.hid hnN
    have EMM := Lib.hid hMM
    have CS := Lib.hid hcs
    have HLE := Lib.hid hle
    clear hSA hiN hS1 hjN hSB hmN hSC hnN hMM hcs hlA hl1' hlB hlC hle hLL hl2
    go_wp2_with fail
    refine (theirsV_s A c S _ S2.out.vals hs3).mono ?_
    rintro e w3 ⟨T, tc, rfl, hT, hb⟩
    have S_3 := Lib.hid (S2.out.below hb)
    have T_3 := Lib.hid hT
    clear hT hb
    go_wp2_with fail
    refine (entries_s B d X L _ S_3.out.ents HF.out hl4).mono ?_
    rintro e w4 ⟨U, uc, X2, rfl, hu1, hu2, hU, hb⟩
    have S_4 := Lib.hid (S_3.out.below hb)
    have T_4 := Lib.hid (at_below T_3.out hb)
    have U_4 := Lib.hid hU
    clear hU hb
    clear hu1 hu2
    go_wp2_with fail
    refine (all_s T U tc uc S SA iN X2 L _ T_4.out U_4.out HF.out hl4 hs3 ESA.out EiN.out).mono ?_
    rintro e w5 ⟨R, rc, rfl, hR, hb⟩
    have S_5 := Lib.hid (S_4.out.below hb)
    have T_5 := Lib.hid (at_below T_4.out hb)
    have U_5 := Lib.hid (it_below U_4.out hb)
    have R_5 := Lib.hid hR
    clear hR hb
    have HKD := Lib.hid (show L1.length ≤ d by have := HD.out; omega)
    have HKL := Lib.hid hkl
    have HS7 := Lib.hid (show ArgSt A B S X L w w5.drew from S_5.out.below (Tx.below_drewN _ _ 1))
    have HR7 := Lib.hid (show Rn.At encV w5.drew R SA from at_below R_5.out (Tx.below_drewN _ _ 1))
    go_wp2
    refine wp_region_noPanic ?_
    refine region_z 12 (ArgSt A B S X L w) 10 9 rfl (by kernel_rfl) (by exact HS7.out) (fun hHeld => ?_)
    have hR : VK R SA _ := ⟨HR7.out⟩
    refine take_z 0 36 (.slice A S.length c) rfl rfl (by kernel_rfl) (by kernel_rfl) (by kernel_rfl) (by kernel_rfl) (fun _ _ _ h => h) (Or.inl ⟨by rfl, by intro W hW; clear hW; go_simp⟩) hHeld ?_
    simp only [put_laws]
    refine take_z 2 38 (.slice B L.length d) rfl rfl (by kernel_rfl) (by kernel_rfl) (by kernel_rfl) (by kernel_rfl) (fun _ _ _ h => h) (Or.inl ⟨by rfl, by intro W hW; clear hW; go_simp⟩) hHeld ?_
    simp only [put_laws]
    refine take_z 3 39 (.int .i64 (L1.length : Nat)) rfl rfl (by kernel_rfl) (by kernel_rfl) (by kernel_rfl) (by kernel_rfl) (fun _ _ _ h => h) (Or.inl ⟨by rfl, by intro W hW; clear hW; go_simp⟩) hHeld ?_
    simp only [put_laws]
    refine take_z 4 40 (.slice B L1.length d) rfl rfl (by kernel_rfl) (by kernel_rfl) (by kernel_rfl) (by kernel_rfl) (fun _ _ _ h => h) (Or.inl ⟨by rfl, by intro W hW; have h1 := HKD.out; have h2 := HKL.out; clear hW; go_simp⟩) hHeld ?_
    simp only [put_laws]
    refine anyZ_ready (rs := [1]) (by kernel_rfl) (by simp) ?_
    refine AllZ.cons rfl (fun K hK => ?_) AllZ.nil
    go_simp
    refine (theirsV_s A c S _ hHeld.vals hs3).mono ?_
    rintro e wa ⟨T2, tc2, rfl, hT2, hb⟩
    try go_simp
    have hPrev := hHeld
    have hHeld := hHeld.below hb
    have hT2 : VK T2 S wa := ⟨hT2⟩
    have hR := hR.below hb
    clear hPrev
    refine hK.out _ _ hHeld (fun hHeld => ?_)
    clear hK K
    refine anyZ_ready (rs := [5]) (by kernel_rfl) (by simp) ?_
    refine AllZ.cons rfl (fun K hK => ?_) AllZ.nil
    go_simp
    refine (entries_s B d (X.take L1.length) L1 _ (by have := hHeld.ents.take L1.length; rwa [HL1.out] at this) HF1.out hL14).mono ?_
    rintro e wb ⟨U2, uc2, X3, rfl, _, _, hU2, hb⟩
    try go_simp
    have hPrev := hHeld
    have hHeld := hHeld.below hb
    have hU2 : IK U2 X3 L1 wb := ⟨hU2⟩
    have hR := hR.below hb
    have hT2 := hT2.below hb
    clear hPrev
    refine hK.out _ _ hHeld (fun hHeld => ?_)
    clear hK K
    refine anyZ_ready (rs := [6]) (by kernel_rfl) (by simp) ?_
    refine AllZ.cons rfl (fun K hK => ?_) AllZ.nil
    go_simp
    refine (all_s T2 U2 tc2 uc2 S S1' jN X3 L1 _ hT2.at_ hU2.at_ HF1.out hL14 hs3 ES1.out EjN.out).mono ?_
    rintro e wc ⟨Q, qc, rfl, hQ, hb⟩
    try go_simp
    have hPrev := hHeld
    have hHeld := hHeld.below hb
    have hQ : VK Q S1' wc := ⟨hQ⟩
    have hR := hR.below hb
    have hT2 := hT2.below hb
    have hU2 := hU2.below hb
    clear hPrev
    refine hK.out _ _ hHeld (fun hHeld => ?_)
    clear hK K
    refine take_z 7 35 (.tuple #[(.slice Q S1'.length qc), .int .i64 jN]) rfl rfl (by kernel_rfl) (by kernel_rfl) (by kernel_rfl) (by kernel_rfl) (fun _ _ _ h => h) (Or.inl ⟨by rfl, by intro W hW; clear hW; go_simp⟩) hHeld ?_
    simp only [put_laws]
    refine take_z 8 43 ((.slice Q S1'.length qc)) rfl rfl (by kernel_rfl) (by kernel_rfl) (by kernel_rfl) (by kernel_rfl) (fun _ _ _ h => h) (Or.inl ⟨by rfl, by intro W hW; clear hW; go_simp⟩) hHeld ?_
    simp only [put_laws]
    refine take_e 44 (.int .i64 jN) rfl rfl (by kernel_rfl) (by kernel_rfl) (by kernel_rfl) (fun _ _ _ h => h) (Or.inl ⟨by rfl, by intro W hW; clear hW; go_simp⟩) ?_
    simp only [put_laws]
    refine anyZ_ready (rs := [10]) (by kernel_rfl) (by simp) ?_
    refine AllZ.last rfl rfl (fun K hK => ?_)
    go_simp
    refine hK.out _ _ ?_
    clear hK K
    refine anyZ_ready (rs := [11]) (by kernel_rfl) (by simp) ?_
    refine AllZ.last rfl rfl (fun K hK => ?_)
    go_simp
    refine hK.out _ _ ?_
    clear hK K
    refine anyZ_done (by kernel_rfl) ?_ _
    refine NoPanic.normal ?_
    have S_c := Lib.hid hHeld
    have R_c := Lib.hid hR.at_
    have Q_c := Lib.hid hQ.at_
    clear hHeld hR hQ hT2 hU2
    have hjc := CS.out
    have hjd : 0 ≤ jN ∨ jN = -1 := hjc.elim (fun h => .inl h.1) (fun h => .inr h.1)
    clear hjc
    rcases hjd with hj | rfl
    · have hcs := CS.out
      rcases hcs with ⟨_, hij, hSS⟩ | ⟨h, _⟩
      rotate_left
      · omega
      subst hij
      subst hSS
      have hj' := ge_of hj
      go_wp2_with fail
      refine (valuesV_s _ _ _ _ R_c.out (by omega)).mono ?_
      rintro e w21 ⟨VA, va, rfl, hV, hb⟩
      have S_21 := Lib.hid (S_c.out.below hb)
      have R_21 := Lib.hid (at_below R_c.out hb)
      have Q_21 := Lib.hid (at_below Q_c.out hb)
      have ya_21 := Lib.hid hV
      clear hV hb
      go_wp2_with fail
      refine (valuesV_s _ _ _ _ Q_21.out (by omega)).mono ?_
      rintro e w22 ⟨VB, vb, rfl, hV, hb⟩
      have S_22 := Lib.hid (S_21.out.below hb)
      have R_22 := Lib.hid (at_below R_21.out hb)
      have Q_22 := Lib.hid (at_below Q_21.out hb)
      have ya_22 := Lib.hid (at_below ya_21.out hb)
      have yb_22 := Lib.hid hV
      clear hV hb
      go_wp2_with fail
      refine (vsame_yes _ _ _ _ _ _ ya_22.out yb_22.out (by omega)).mono ?_
      rintro e w23 ⟨rfl, hb⟩
      have S_23 := Lib.hid (S_22.out.below hb)
      have R_23 := Lib.hid (at_below R_22.out hb)
      have Q_23 := Lib.hid (at_below Q_22.out hb)
      have ya_23 := Lib.hid (at_below ya_22.out hb)
      have yb_23 := Lib.hid (at_below yb_22.out hb)
      clear  hb
      go_wp2
      go_ret
      exact ⟨rfl, S_23.out.bel⟩
    · by_cases hdk : d = L1.length
      · have h2n := H2L.out
        have hLd := HD.out
        have h20 : L2.length = 0 := by omega
        have HE2 := Lib.hid (show ItAt wc B [] L2 by rw [List.eq_nil_of_length_eq_zero h20]; exact ItAt.empty _ _)
        subst hdk
        have hkl2 : ¬ (L1.length : Int) > (L.length : Int) := by omega
        clear h2n hLd h20
        go_wp2_with fail
        refine (entries_n _ _ _ [] L2 _ HE2.out HF2.out hL24 H2L.out).mono ?_
        rintro e w21 ⟨E2, ec2, X4, rfl, _, _, hE2, hb⟩
        have S_21 := Lib.hid (S_c.out.below hb)
        have R_21 := Lib.hid (at_below R_c.out hb)
        have Q_21 := Lib.hid (at_below Q_c.out hb)
        have E2_21 := Lib.hid hE2
        clear hE2 hb
        go_wp2_with fail
        refine (all_s _ _ _ _ S1' SB mN _ L2 _ Q_21.out E2_21.out HF2.out hL24 hS13 ESB.out EmN.out).mono ?_
        rintro e w22 ⟨P, pc, rfl, hP, hb⟩
        have S_22 := Lib.hid (S_21.out.below hb)
        have R_22 := Lib.hid (at_below R_21.out hb)
        have Q_22 := Lib.hid (at_below Q_21.out hb)
        have E2_22 := Lib.hid (it_below E2_21.out hb)
        have P_22 := Lib.hid hP
        clear hP hb
        have hcs := CS.out
        rcases hcs with ⟨hj, _⟩ | ⟨_, hcs⟩
        · omega
        rcases hcs with ⟨hm0, rfl, rfl⟩ | ⟨rfl, rfl, rfl, rfl, rfl⟩
        · have hm1 : mN ≥ 0 := hm0
          have hm2 : mN ≤ (L2.length : Int) := HLE.out
          have hm3 := H2L.out
          have hi0 : (L1.length : Int) + mN ≥ 0 := by omega
          have hsum : (L1.length : Int) + mN ≤ 9223372036854775807 := by omega
          clear hm3
          go_wp2_with fail
          refine (valuesV_s _ _ _ _ R_22.out (by omega)).mono ?_
          rintro e w23 ⟨VA, va, rfl, hV, hb⟩
          have S_23 := Lib.hid (S_22.out.below hb)
          have R_23 := Lib.hid (at_below R_22.out hb)
          have Q_23 := Lib.hid (at_below Q_22.out hb)
          have E2_23 := Lib.hid (it_below E2_22.out hb)
          have P_23 := Lib.hid (at_below P_22.out hb)
          have ya_23 := Lib.hid hV
          clear hV hb
          go_wp2_with fail
          refine (valuesV_s _ _ _ _ P_23.out (by omega)).mono ?_
          rintro e w24 ⟨VB, vb, rfl, hV, hb⟩
          have S_24 := Lib.hid (S_23.out.below hb)
          have R_24 := Lib.hid (at_below R_23.out hb)
          have Q_24 := Lib.hid (at_below Q_23.out hb)
          have E2_24 := Lib.hid (it_below E2_23.out hb)
          have P_24 := Lib.hid (at_below P_23.out hb)
          have ya_24 := Lib.hid (at_below ya_23.out hb)
          have yb_24 := Lib.hid hV
          clear hV hb
          go_wp2_with fail
          refine (vsame_yes _ _ _ _ _ _ ya_24.out yb_24.out (by omega)).mono ?_
          rintro e w25 ⟨rfl, hb⟩
          have S_25 := Lib.hid (S_24.out.below hb)
          have R_25 := Lib.hid (at_below R_24.out hb)
          have Q_25 := Lib.hid (at_below Q_24.out hb)
          have E2_25 := Lib.hid (it_below E2_24.out hb)
          have P_25 := Lib.hid (at_below P_24.out hb)
          have ya_25 := Lib.hid (at_below ya_24.out hb)
          have yb_25 := Lib.hid (at_below yb_24.out hb)
          clear  hb
          go_wp2
          go_ret
          exact ⟨rfl, S_25.out.bel⟩
        · go_wp2_with fail
          refine (theirsV_s A c S _ S_22.out.vals hs3).mono ?_
          rintro e w23 ⟨T5, tc5, rfl, hT5, hb⟩
          have S_23 := Lib.hid (S_22.out.below hb)
          have R_23 := Lib.hid (at_below R_22.out hb)
          have Q_23 := Lib.hid (at_below Q_22.out hb)
          have E2_23 := Lib.hid (it_below E2_22.out hb)
          have P_23 := Lib.hid (at_below P_22.out hb)
          have T5_23 := Lib.hid hT5
          clear hT5 hb
          go_wp2_with fail
          refine (entries_s B _ X L _ S_23.out.ents HF.out hl4).mono ?_
          rintro e w24 ⟨U5, uc5, X5, rfl, _, _, hU5, hb⟩
          have S_24 := Lib.hid (S_23.out.below hb)
          have R_24 := Lib.hid (at_below R_23.out hb)
          have Q_24 := Lib.hid (at_below Q_23.out hb)
          have E2_24 := Lib.hid (it_below E2_23.out hb)
          have P_24 := Lib.hid (at_below P_23.out hb)
          have T5_24 := Lib.hid (at_below T5_23.out hb)
          have U5_24 := Lib.hid hU5
          clear hU5 hb
          go_wp2_with fail
          refine (committed_s _ _ X5 L M _ U5_24.out HF.out hl4 EMM.out).mono ?_
          rintro e w25 ⟨U6, uc6, X6, rfl, _, _, hU6, hb⟩
          have S_25 := Lib.hid (S_24.out.below hb)
          have R_25 := Lib.hid (at_below R_24.out hb)
          have Q_25 := Lib.hid (at_below Q_24.out hb)
          have E2_25 := Lib.hid (it_below E2_24.out hb)
          have P_25 := Lib.hid (at_below P_24.out hb)
          have T5_25 := Lib.hid (at_below T5_24.out hb)
          have U5_25 := Lib.hid (it_below U5_24.out hb)
          have U6_25 := Lib.hid hU6
          clear hU6 hb
          go_wp2_with fail
          refine (all_s _ _ _ _ S _ (-1) X6 M _ T5_25.out U6_25.out HFM.out hM4 hs3 ESC.out EnN.out).mono ?_
          rintro e w26 ⟨N, nc, rfl, hN5, hb⟩
          have S_26 := Lib.hid (S_25.out.below hb)
          have R_26 := Lib.hid (at_below R_25.out hb)
          have Q_26 := Lib.hid (at_below Q_25.out hb)
          have E2_26 := Lib.hid (it_below E2_25.out hb)
          have P_26 := Lib.hid (at_below P_25.out hb)
          have T5_26 := Lib.hid (at_below T5_25.out hb)
          have U5_26 := Lib.hid (it_below U5_25.out hb)
          have U6_26 := Lib.hid (it_below U6_25.out hb)
          have N_26 := Lib.hid hN5
          clear hN5 hb
          go_wp2_with fail
          refine (valuesV_s _ _ _ _ R_26.out (by omega)).mono ?_
          rintro e w27 ⟨VA, va, rfl, hV, hb⟩
          have S_27 := Lib.hid (S_26.out.below hb)
          have R_27 := Lib.hid (at_below R_26.out hb)
          have Q_27 := Lib.hid (at_below Q_26.out hb)
          have E2_27 := Lib.hid (it_below E2_26.out hb)
          have P_27 := Lib.hid (at_below P_26.out hb)
          have T5_27 := Lib.hid (at_below T5_26.out hb)
          have U5_27 := Lib.hid (it_below U5_26.out hb)
          have U6_27 := Lib.hid (it_below U6_26.out hb)
          have N_27 := Lib.hid (at_below N_26.out hb)
          have ya_27 := Lib.hid hV
          clear hV hb
          go_wp2_with fail
          refine (valuesV_s _ _ _ _ P_27.out (by omega)).mono ?_
          rintro e w28 ⟨VB, vb, rfl, hV, hb⟩
          have S_28 := Lib.hid (S_27.out.below hb)
          have R_28 := Lib.hid (at_below R_27.out hb)
          have Q_28 := Lib.hid (at_below Q_27.out hb)
          have E2_28 := Lib.hid (it_below E2_27.out hb)
          have P_28 := Lib.hid (at_below P_27.out hb)
          have T5_28 := Lib.hid (at_below T5_27.out hb)
          have U5_28 := Lib.hid (it_below U5_27.out hb)
          have U6_28 := Lib.hid (it_below U6_27.out hb)
          have N_28 := Lib.hid (at_below N_27.out hb)
          have ya_28 := Lib.hid (at_below ya_27.out hb)
          have yb_28 := Lib.hid hV
          clear hV hb
          go_wp2_with fail
          refine (vsame_yes _ _ _ _ _ _ ya_28.out yb_28.out (by omega)).mono ?_
          rintro e w29 ⟨rfl, hb⟩
          have S_29 := Lib.hid (S_28.out.below hb)
          have R_29 := Lib.hid (at_below R_28.out hb)
          have Q_29 := Lib.hid (at_below Q_28.out hb)
          have E2_29 := Lib.hid (it_below E2_28.out hb)
          have P_29 := Lib.hid (at_below P_28.out hb)
          have T5_29 := Lib.hid (at_below T5_28.out hb)
          have U5_29 := Lib.hid (it_below U5_28.out hb)
          have U6_29 := Lib.hid (it_below U6_28.out hb)
          have N_29 := Lib.hid (at_below N_28.out hb)
          have ya_29 := Lib.hid (at_below ya_28.out hb)
          have yb_29 := Lib.hid (at_below yb_28.out hb)
          clear  hb
          go_wp2_with fail
          refine (valuesV_s _ _ _ _ R_29.out (by omega)).mono ?_
          rintro e w30 ⟨VA, va, rfl, hV, hb⟩
          have S_30 := Lib.hid (S_29.out.below hb)
          have R_30 := Lib.hid (at_below R_29.out hb)
          have Q_30 := Lib.hid (at_below Q_29.out hb)
          have E2_30 := Lib.hid (it_below E2_29.out hb)
          have P_30 := Lib.hid (at_below P_29.out hb)
          have T5_30 := Lib.hid (at_below T5_29.out hb)
          have U5_30 := Lib.hid (it_below U5_29.out hb)
          have U6_30 := Lib.hid (it_below U6_29.out hb)
          have N_30 := Lib.hid (at_below N_29.out hb)
          have ya_30 := Lib.hid hV
          clear hV hb
          go_wp2_with fail
          refine (valuesV_s _ _ _ _ N_30.out (by omega)).mono ?_
          rintro e w31 ⟨VB, vb, rfl, hV, hb⟩
          have S_31 := Lib.hid (S_30.out.below hb)
          have R_31 := Lib.hid (at_below R_30.out hb)
          have Q_31 := Lib.hid (at_below Q_30.out hb)
          have E2_31 := Lib.hid (it_below E2_30.out hb)
          have P_31 := Lib.hid (at_below P_30.out hb)
          have T5_31 := Lib.hid (at_below T5_30.out hb)
          have U5_31 := Lib.hid (it_below U5_30.out hb)
          have U6_31 := Lib.hid (it_below U6_30.out hb)
          have N_31 := Lib.hid (at_below N_30.out hb)
          have ya_31 := Lib.hid (at_below ya_30.out hb)
          have yb_31 := Lib.hid hV
          clear hV hb
          go_wp2_with fail
          refine (vsame_yes _ _ _ _ _ _ ya_31.out yb_31.out (by omega)).mono ?_
          rintro e w32 ⟨rfl, hb⟩
          have S_32 := Lib.hid (S_31.out.below hb)
          have R_32 := Lib.hid (at_below R_31.out hb)
          have Q_32 := Lib.hid (at_below Q_31.out hb)
          have E2_32 := Lib.hid (it_below E2_31.out hb)
          have P_32 := Lib.hid (at_below P_31.out hb)
          have T5_32 := Lib.hid (at_below T5_31.out hb)
          have U5_32 := Lib.hid (it_below U5_31.out hb)
          have U6_32 := Lib.hid (it_below U6_31.out hb)
          have N_32 := Lib.hid (at_below N_31.out hb)
          have ya_32 := Lib.hid (at_below ya_31.out hb)
          have yb_32 := Lib.hid (at_below yb_31.out hb)
          clear  hb
          go_wp2
          go_ret
          exact ⟨rfl, S_32.out.bel⟩
      · obtain ⟨ad, rfl⟩ : ∃ ad, B = some ad := by
          rcases B with _ | ad
          · have h1 := HNIL.out rfl
            have h2 := HKD.out
            omega
          · exact ⟨ad, rfl⟩
        have HE2 := Lib.hid (show ItAt wc (some (ad.add (L1.length * 5))) (X.drop L1.length) L2 by have h := S_c.out.ents.drop L1.length; rwa [HL2.out] at h)
        have hkd : ¬ d = L1.length := hdk
        have hkl3 := HKL.out
        have hkd3 := HKD.out
        go_wp2_with fail
        refine (entries_n _ _ _ _ L2 _ HE2.out HF2.out hL24 H2L.out).mono ?_
        rintro e w21 ⟨E2, ec2, X4, rfl, _, _, hE2, hb⟩
        have S_21 := Lib.hid (S_c.out.below hb)
        have R_21 := Lib.hid (at_below R_c.out hb)
        have Q_21 := Lib.hid (at_below Q_c.out hb)
        have E2_21 := Lib.hid hE2
        clear hE2 hb
        clear hkl3 hkd3
        go_wp2_with fail
        refine (all_s _ _ _ _ S1' SB mN _ L2 _ Q_21.out E2_21.out HF2.out hL24 hS13 ESB.out EmN.out).mono ?_
        rintro e w22 ⟨P, pc, rfl, hP, hb⟩
        have S_22 := Lib.hid (S_21.out.below hb)
        have R_22 := Lib.hid (at_below R_21.out hb)
        have Q_22 := Lib.hid (at_below Q_21.out hb)
        have E2_22 := Lib.hid (it_below E2_21.out hb)
        have P_22 := Lib.hid hP
        clear hP hb
        have hcs := CS.out
        rcases hcs with ⟨hj, _⟩ | ⟨_, hcs⟩
        · omega
        rcases hcs with ⟨hm0, rfl, rfl⟩ | ⟨rfl, rfl, rfl, rfl, rfl⟩
        · have hm1 : mN ≥ 0 := hm0
          have hm2 : mN ≤ (L2.length : Int) := HLE.out
          have hm3 := H2L.out
          have hi0 : (L1.length : Int) + mN ≥ 0 := by omega
          have hsum : (L1.length : Int) + mN ≤ 9223372036854775807 := by omega
          clear hm3
          go_wp2_with fail
          refine (valuesV_s _ _ _ _ R_22.out (by omega)).mono ?_
          rintro e w23 ⟨VA, va, rfl, hV, hb⟩
          have S_23 := Lib.hid (S_22.out.below hb)
          have R_23 := Lib.hid (at_below R_22.out hb)
          have Q_23 := Lib.hid (at_below Q_22.out hb)
          have E2_23 := Lib.hid (it_below E2_22.out hb)
          have P_23 := Lib.hid (at_below P_22.out hb)
          have ya_23 := Lib.hid hV
          clear hV hb
          go_wp2_with fail
          refine (valuesV_s _ _ _ _ P_23.out (by omega)).mono ?_
          rintro e w24 ⟨VB, vb, rfl, hV, hb⟩
          have S_24 := Lib.hid (S_23.out.below hb)
          have R_24 := Lib.hid (at_below R_23.out hb)
          have Q_24 := Lib.hid (at_below Q_23.out hb)
          have E2_24 := Lib.hid (it_below E2_23.out hb)
          have P_24 := Lib.hid (at_below P_23.out hb)
          have ya_24 := Lib.hid (at_below ya_23.out hb)
          have yb_24 := Lib.hid hV
          clear hV hb
          go_wp2_with fail
          refine (vsame_yes _ _ _ _ _ _ ya_24.out yb_24.out (by omega)).mono ?_
          rintro e w25 ⟨rfl, hb⟩
          have S_25 := Lib.hid (S_24.out.below hb)
          have R_25 := Lib.hid (at_below R_24.out hb)
          have Q_25 := Lib.hid (at_below Q_24.out hb)
          have E2_25 := Lib.hid (it_below E2_24.out hb)
          have P_25 := Lib.hid (at_below P_24.out hb)
          have ya_25 := Lib.hid (at_below ya_24.out hb)
          have yb_25 := Lib.hid (at_below yb_24.out hb)
          clear  hb
          go_wp2
          go_ret
          exact ⟨rfl, S_25.out.bel⟩
        · go_wp2_with fail
          refine (theirsV_s A c S _ S_22.out.vals hs3).mono ?_
          rintro e w23 ⟨T5, tc5, rfl, hT5, hb⟩
          have S_23 := Lib.hid (S_22.out.below hb)
          have R_23 := Lib.hid (at_below R_22.out hb)
          have Q_23 := Lib.hid (at_below Q_22.out hb)
          have E2_23 := Lib.hid (it_below E2_22.out hb)
          have P_23 := Lib.hid (at_below P_22.out hb)
          have T5_23 := Lib.hid hT5
          clear hT5 hb
          go_wp2_with fail
          refine (entries_s (some ad) d X L _ S_23.out.ents HF.out hl4).mono ?_
          rintro e w24 ⟨U5, uc5, X5, rfl, _, _, hU5, hb⟩
          have S_24 := Lib.hid (S_23.out.below hb)
          have R_24 := Lib.hid (at_below R_23.out hb)
          have Q_24 := Lib.hid (at_below Q_23.out hb)
          have E2_24 := Lib.hid (it_below E2_23.out hb)
          have P_24 := Lib.hid (at_below P_23.out hb)
          have T5_24 := Lib.hid (at_below T5_23.out hb)
          have U5_24 := Lib.hid hU5
          clear hU5 hb
          go_wp2_with fail
          refine (committed_s _ _ X5 L M _ U5_24.out HF.out hl4 EMM.out).mono ?_
          rintro e w25 ⟨U6, uc6, X6, rfl, _, _, hU6, hb⟩
          have S_25 := Lib.hid (S_24.out.below hb)
          have R_25 := Lib.hid (at_below R_24.out hb)
          have Q_25 := Lib.hid (at_below Q_24.out hb)
          have E2_25 := Lib.hid (it_below E2_24.out hb)
          have P_25 := Lib.hid (at_below P_24.out hb)
          have T5_25 := Lib.hid (at_below T5_24.out hb)
          have U5_25 := Lib.hid (it_below U5_24.out hb)
          have U6_25 := Lib.hid hU6
          clear hU6 hb
          go_wp2_with fail
          refine (all_s _ _ _ _ S _ (-1) X6 M _ T5_25.out U6_25.out HFM.out hM4 hs3 ESC.out EnN.out).mono ?_
          rintro e w26 ⟨N, nc, rfl, hN5, hb⟩
          have S_26 := Lib.hid (S_25.out.below hb)
          have R_26 := Lib.hid (at_below R_25.out hb)
          have Q_26 := Lib.hid (at_below Q_25.out hb)
          have E2_26 := Lib.hid (it_below E2_25.out hb)
          have P_26 := Lib.hid (at_below P_25.out hb)
          have T5_26 := Lib.hid (at_below T5_25.out hb)
          have U5_26 := Lib.hid (it_below U5_25.out hb)
          have U6_26 := Lib.hid (it_below U6_25.out hb)
          have N_26 := Lib.hid hN5
          clear hN5 hb
          go_wp2_with fail
          refine (valuesV_s _ _ _ _ R_26.out (by omega)).mono ?_
          rintro e w27 ⟨VA, va, rfl, hV, hb⟩
          have S_27 := Lib.hid (S_26.out.below hb)
          have R_27 := Lib.hid (at_below R_26.out hb)
          have Q_27 := Lib.hid (at_below Q_26.out hb)
          have E2_27 := Lib.hid (it_below E2_26.out hb)
          have P_27 := Lib.hid (at_below P_26.out hb)
          have T5_27 := Lib.hid (at_below T5_26.out hb)
          have U5_27 := Lib.hid (it_below U5_26.out hb)
          have U6_27 := Lib.hid (it_below U6_26.out hb)
          have N_27 := Lib.hid (at_below N_26.out hb)
          have ya_27 := Lib.hid hV
          clear hV hb
          go_wp2_with fail
          refine (valuesV_s _ _ _ _ P_27.out (by omega)).mono ?_
          rintro e w28 ⟨VB, vb, rfl, hV, hb⟩
          have S_28 := Lib.hid (S_27.out.below hb)
          have R_28 := Lib.hid (at_below R_27.out hb)
          have Q_28 := Lib.hid (at_below Q_27.out hb)
          have E2_28 := Lib.hid (it_below E2_27.out hb)
          have P_28 := Lib.hid (at_below P_27.out hb)
          have T5_28 := Lib.hid (at_below T5_27.out hb)
          have U5_28 := Lib.hid (it_below U5_27.out hb)
          have U6_28 := Lib.hid (it_below U6_27.out hb)
          have N_28 := Lib.hid (at_below N_27.out hb)
          have ya_28 := Lib.hid (at_below ya_27.out hb)
          have yb_28 := Lib.hid hV
          clear hV hb
          go_wp2_with fail
          refine (vsame_yes _ _ _ _ _ _ ya_28.out yb_28.out (by omega)).mono ?_
          rintro e w29 ⟨rfl, hb⟩
          have S_29 := Lib.hid (S_28.out.below hb)
          have R_29 := Lib.hid (at_below R_28.out hb)
          have Q_29 := Lib.hid (at_below Q_28.out hb)
          have E2_29 := Lib.hid (it_below E2_28.out hb)
          have P_29 := Lib.hid (at_below P_28.out hb)
          have T5_29 := Lib.hid (at_below T5_28.out hb)
          have U5_29 := Lib.hid (it_below U5_28.out hb)
          have U6_29 := Lib.hid (it_below U6_28.out hb)
          have N_29 := Lib.hid (at_below N_28.out hb)
          have ya_29 := Lib.hid (at_below ya_28.out hb)
          have yb_29 := Lib.hid (at_below yb_28.out hb)
          clear  hb
          go_wp2_with fail
          refine (valuesV_s _ _ _ _ R_29.out (by omega)).mono ?_
          rintro e w30 ⟨VA, va, rfl, hV, hb⟩
          have S_30 := Lib.hid (S_29.out.below hb)
          have R_30 := Lib.hid (at_below R_29.out hb)
          have Q_30 := Lib.hid (at_below Q_29.out hb)
          have E2_30 := Lib.hid (it_below E2_29.out hb)
          have P_30 := Lib.hid (at_below P_29.out hb)
          have T5_30 := Lib.hid (at_below T5_29.out hb)
          have U5_30 := Lib.hid (it_below U5_29.out hb)
          have U6_30 := Lib.hid (it_below U6_29.out hb)
          have N_30 := Lib.hid (at_below N_29.out hb)
          have ya_30 := Lib.hid hV
          clear hV hb
          go_wp2_with fail
          refine (valuesV_s _ _ _ _ N_30.out (by omega)).mono ?_
          rintro e w31 ⟨VB, vb, rfl, hV, hb⟩
          have S_31 := Lib.hid (S_30.out.below hb)
          have R_31 := Lib.hid (at_below R_30.out hb)
          have Q_31 := Lib.hid (at_below Q_30.out hb)
          have E2_31 := Lib.hid (it_below E2_30.out hb)
          have P_31 := Lib.hid (at_below P_30.out hb)
          have T5_31 := Lib.hid (at_below T5_30.out hb)
          have U5_31 := Lib.hid (it_below U5_30.out hb)
          have U6_31 := Lib.hid (it_below U6_30.out hb)
          have N_31 := Lib.hid (at_below N_30.out hb)
          have ya_31 := Lib.hid (at_below ya_30.out hb)
          have yb_31 := Lib.hid hV
          clear hV hb
          go_wp2_with fail
          refine (vsame_yes _ _ _ _ _ _ ya_31.out yb_31.out (by omega)).mono ?_
          rintro e w32 ⟨rfl, hb⟩
          have S_32 := Lib.hid (S_31.out.below hb)
          have R_32 := Lib.hid (at_below R_31.out hb)
          have Q_32 := Lib.hid (at_below Q_31.out hb)
          have E2_32 := Lib.hid (it_below E2_31.out hb)
          have P_32 := Lib.hid (at_below P_31.out hb)
          have T5_32 := Lib.hid (at_below T5_31.out hb)
          have U5_32 := Lib.hid (it_below U5_31.out hb)
          have U6_32 := Lib.hid (it_below U6_31.out hb)
          have N_32 := Lib.hid (at_below N_31.out hb)
          have ya_32 := Lib.hid (at_below ya_31.out hb)
          have yb_32 := Lib.hid (at_below yb_31.out hb)
          clear  hb
          go_wp2
          go_ret
          exact ⟨rfl, S_32.out.bel⟩
end Go.Proofs.Ytkbgnapbhboplaa.Rp
