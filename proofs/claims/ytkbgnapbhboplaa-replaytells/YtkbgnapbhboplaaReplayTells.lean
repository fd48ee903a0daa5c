/-
  The walk of ReplayTells.
-/
import Derived.Test.YtkbgnapbhboplaaRepRef
import Derived.Test.YtkbgnapbhboplaaAnyZ
namespace Go.Proofs.Ytkbgnapbhboplaa.Rp
open Go.RowKit Tx Az
theorem begin_s (n : Int) (w : World) : Calls Try.prog 22 #[.int .i64 n] w (VlS (firsts (cl n)) w) := (begin_any n w).mono fun _ _ h => h.s
theorem rbegin_s (n : Int) (w : World) : Calls Try.prog 23 #[.int .i64 n] w (VlS (firsts (cl n)) w) := (rbegin_any n w).mono fun _ _ h => h.s
theorem rcommitted_s (A : Option Addr) (c : Nat) (X0 : List Xc) (L M : List Ent) (w : World) (h : ItAt w A X0 L) (hl : L.length ≤ 10000) (hM : L.filter (·.com) = M) : Calls Try.prog 21 #[.slice A L.length c] w (ItS M w) := hM ▸ (rcommitted_any A c X0 L w h hl).mono fun _ _ h => h.s
def OneP (e : Ent) (w : World) (x : Ending) (w' : World) : Prop := ∃ g ec A' c' B' d', x = .returned (.slice (some ⟨g, 0, none⟩) 1 ec) ∧ ItAt w' (some ⟨g, 0, none⟩) [(⟨e, A', c', B', d'⟩ : Xc)] [e] ∧ Below w.heap.size w w'
theorem ownx_open {w : World} {base : Nat} {t : TypeId} {v : Value} {X : List Xc} (h : Rn.Own encX w base t v X) (hl : 0 < X.length) : ∃ g cap, v = .slice (some ⟨g, 0, none⟩) X.length cap := by
  rcases h.2 with ⟨_, h0⟩ | ⟨g, cap, cur, rfl, hb, hg, _⟩
  · omega
  · exact ⟨g, cap, rfl⟩
theorem entries_one (A : Option Addr) (c : Nat) (x : Xc) (w : World) (h : ItAt w A [x] [x.e]) (h1 : x.e.rd.length ≤ 300) (h2 : x.e.wt.length ≤ 300) : Calls Try.prog 12 #[.slice A 1 c] w (OneP x.e w) := by
  refine (entries_any A c [x] [x.e] w h (fun e he => by rw [List.mem_singleton] at he; subst he; exact ⟨h1, h2⟩) (by simp)).mono ?_
  rintro e w' ⟨v, X, rfl, ho, hb⟩
  obtain ⟨y, rfl⟩ : ∃ y, X = [y] := by
    have hl := ho.len
    match X, hl with
    | [y], _ => exact ⟨y, rfl⟩
  have he : y.e = x.e := by have := ho.es; simpa using this
  obtain ⟨g, cap, rfl⟩ := ownx_open ho.row (by simp)
  obtain ⟨ye, A', c', B', d'⟩ := y
  obtain rfl : ye = x.e := he
  obtain ⟨A2, c2, e2, _, _, hI⟩ := ho.slice
  have := (Value.slice.inj e2).1
  subst this
  exact ⟨g, cap, A', c', B', d', rfl, hI, hb⟩
/-- what the calls on one entry want. -/
structure TSt (A B : Option Addr) (S : List Vp) (X : List Xc) (L : List Ent) (b : Nat) (x : Xc) (w W : World) : Prop where
  st : ArgSt A B S X L w W
  box : BoxX W b 36 x
theorem TSt.below {A B : Option Addr} {S : List Vp} {X : List Xc} {L : List Ent} {b : Nat} {x : Xc} {w W W' : World} (h : TSt A B S X L b x w W) (hb : Below W.heap.size W W') : TSt A B S X L b x w W' := ⟨h.st.below hb, h.box.below hb h.box.lt⟩
theorem one_it {W : World} {x : Xc} (h : RdX W x) : ItAt (W.alloc (.cells (entA x) 36)) (some ⟨W.heap.size, 0, none⟩) [x] [x.e] :=
  ⟨Rn.At.new _ x (entA x) rfl 36 rfl, rfl, fun y hy => by rw [List.mem_singleton] at hy; subst hy; exact h.below (Rn.below_new W _) (Nat.le_refl _)⟩
theorem tells_rel (n : Nat) : True := trivial
def TlRel (n : Nat) (w : World) (i : Value) (wr : World) : Prop := ∃ k : Nat, k ≤ n ∧ i = .int .i64 k ∧ Aside (Below w.heap.size w wr)
set_option maxHeartbeats 8000000 in
set_option maxRecDepth 100000 in
theorem replayTells_walk (A B : Option Addr) (n c m d : Nat) (S : List Vp) (X : List Xc) (z : Int) (w : World) (h0 : ValArg w A n c S) (h1 : EntArg w B m d X) :
    Calls Try.prog 3 #[.slice A n c, .slice B m d, .int .i64 z] w fun e w' => e = .returned (.bool true) ∧ Below w.heap.size w w' := by
  obtain ⟨rfl, hc, hm, hA, _⟩ := h0
  obtain ⟨L, rfl, hd, hm2, hB, _⟩ := h1.open_
  have HA := Lib.hid hA
  have HB := Lib.hid hB
  have HC := Lib.hid (show S.length ≤ c ∧ c ≤ maxLen from ⟨hc, hm⟩)
  have hN : (S.length : Int) ≤ 9223372036854775807 := by unfold maxLen at hm; omega
  have hM : (L.length : Int) ≤ 9223372036854775807 := by unfold maxLen at hm2; omega
  clear hA hB hc hm hd hm2 h1
  go_enter Try.func3, Try.ntmps3
  go_wp2_with fail
  refine (alive_any _).mono ?_
  rintro e w1 ⟨rfl, hb1⟩
  have S1 := Lib.hid (show ArgSt A B S X L w w1 from ⟨HA.out.below hb1 (Nat.le_refl _), HB.out.below hb1 (Nat.le_refl _), hb1⟩)
  clear hb1
  go_wp2_with fail
  refine (heavy_any A B c d S.length X L _ S1.out.ents hN hM (fun x hx => ⟨(S1.out.ents.rd x hx).rd.max, (S1.out.ents.rd x hx).wt.max⟩)).mono ?_
  rintro e w2 ⟨rfl, hb2⟩
  have S2 := Lib.hid (S1.out.below hb2)
  clear hb2
  cases hh : heavy S.length L with
  | true =>
    clear hh
    go_wp2
    go_ret
    exact ⟨rfl, S2.out.bel⟩
  | false =>
    obtain ⟨hf, hs, hl⟩ := heavy_no hh
    have HF := Lib.hid hf
    have hs3 : S.length ≤ 300 := by omega
    have hl4 : L.length ≤ 10000 := by omega
    clear hh hf
    obtain ⟨SA, hSA⟩ : ∃ Z, allS S L = Z := ⟨_, rfl⟩
    obtain ⟨iN, hiN⟩ : ∃ Z, allN S L = Z := ⟨_, rfl⟩
    obtain ⟨M, hMM⟩ : ∃ Z, L.filter (·.com) = Z := ⟨_, rfl⟩
    have hlA : SA.length = S.length := by rw [← hSA, allS_len]
    have hSA3 : SA.length ≤ 300 := by omega
    have hM4 : M.length ≤ 10000 := by rw [← hMM]; have := List.length_filter_le (fun e : Ent => e.com) L; omega
    have HFM := Lib.hid (show few M by rw [← hMM]; exact few_filter HF.out)
    have ESA := Lib.hid hSA
    have EiN := Lib.hid hiN
    have EMM := Lib.hid hMM
    clear hSA hiN hMM hlA
    go_wp2_with fail
    refine (theirsV_s A c S _ S2.out.vals hs3).mono ?_
    rintro e w3 ⟨T, tc, rfl, hT, hb⟩
    have S_3 := Lib.hid (S2.out.below hb)
    have T_3 := Lib.hid hT
    clear hT hb
    go_wp2_with fail
    refine (entries_s B d X L _ S_3.out.ents HF.out hl4).mono ?_
    rintro e w4 ⟨U, uc, X2, rfl, hu1, hu2, hU, hb⟩
    have S_4 := Lib.hid (S_3.out.below hb)
    have T_4 := Lib.hid (at_below T_3.out hb)
    have U_4 := Lib.hid hU
    clear hU hb
    clear hu1 hu2
    go_wp2_with fail
    refine (all_s T U tc uc S SA iN X2 L _ T_4.out U_4.out HF.out hl4 hs3 ESA.out EiN.out).mono ?_
    rintro e w5 ⟨R, rc, rfl, hR, hb⟩
    have S_5 := Lib.hid (S_4.out.below hb)
    have T_5 := Lib.hid (at_below T_4.out hb)
    have U_5 := Lib.hid (it_below U_4.out hb)
    have R_5 := Lib.hid hR
    clear hR hb
    go_wp2_with fail
    refine (rall_any A B c d S SA iN X L _ S_5.out.vals S_5.out.ents HF.out hl4 hs3 HC.out.1 HC.out.2 ESA.out EiN.out).mono ?_
    rintro e w6 ⟨Q, qc, rfl, hQ, hb⟩
    have S_6 := Lib.hid (S_5.out.below hb)
    have R_6 := Lib.hid (at_below R_5.out hb)
    have Q_6 := Lib.hid hQ
    clear hQ hb
    go_wp2
    go_loopw [38] (TlRel L.length w6) (fun i _ => L.length - (intOf i).toNat)
    case atStart => exact ⟨0, Nat.zero_le _, rfl, Below.refl _ _⟩
    case round =>
      obtain ⟨k, hk, rfl, HW⟩ := hrel
      have SR := Lib.hid (S_6.out.below HW.out)
      by_cases hlt : k < L.length
      · obtain ⟨ad, x, rfl, hXk, hlk, hrd, h5⟩ := SR.out.ents.at_ hlt
        obtain ⟨c0, c1, c2, c3, c4⟩ := h5
        have HFX := Lib.hid (HF.out x.e (List.mem_of_getElem? hlk))
        have HBN := Lib.hid (Rn.below_new wr (.cells (entA x) 36))
        have HBX := Lib.hid (BoxX.new wr 36 x)
        have HRD := Lib.hid (hrd.below HBN.out (Nat.le_refl _))
        unfold entA at HBN HBX HRD
        clear hXk hlk hrd
        have hlt' : (k : Int) < (L.length : Int) := by omega
        have h0 : (0 : Int) ≤ (k : Int) := by omega
        obtain ⟨SD, hSD⟩ : ∃ Z, doS S x.e = Z := ⟨_, rfl⟩
        obtain ⟨bF, hbF⟩ : ∃ Z, fits S x.e = Z := ⟨_, rfl⟩
        have hSD3 : SD.length ≤ 300 := by rw [← hSD, doS_len]; exact hs3
        have ESD := Lib.hid hSD
        have EbF := Lib.hid hbF
        clear hSD hbF
        go_wp2
        obtain ⟨w1, hw1⟩ : ∃ w1, w1 = wr.alloc (.cells #[.int .i64 x.e.id, .bool x.e.com, .bool x.e.ovr, .slice x.A x.e.rd.length x.c, .slice x.B x.e.wt.length x.d] 36) := ⟨_, rfl⟩
        rw [← hw1] at HBN HBX HRD ⊢
        clear hw1 c0 c1 c2 c3 c4
        have HT1 := Lib.hid (show TSt A (some ad) S X L wr.heap.size x w w1 from ⟨SR.out.below HBN.out, HBX.out⟩)
        have HWB := Lib.hid (HW.out.trans (HBN.out.mono HW.out.size))
        refine wp_region_noPanic ?_
        refine region_z 13 (TSt A (some ad) S X L wr.heap.size x w) 11 10 rfl (by kernel_rfl) (by exact HT1.out.below (Tx.below_drewN _ _ 1)) (fun hHeld => ?_)
        have hBl : BlK w1 _ := ⟨Tx.below_drewN _ _ 1⟩
        refine take_z 0 43 (.slice A S.length c) rfl rfl (by kernel_rfl) (by kernel_rfl) (by kernel_rfl) (by kernel_rfl) (fun _ _ _ h => h) (Or.inl ⟨by rfl, by intro W hW; clear hW; go_simp⟩) hHeld ?_
        simp only [put_laws]
        refine take_z 2 45 (.agg (#[.int .i64 x.e.id, .bool x.e.com, .bool x.e.ovr, .slice x.A x.e.rd.length x.c, .slice x.B x.e.wt.length x.d])) rfl rfl (by kernel_rfl) (by kernel_rfl) (by kernel_rfl) (by kernel_rfl) (fun _ _ _ h => h) (Or.inl ⟨by rfl, by intro W hW; have h0 := hW.box.c0; have h1 := hW.box.c1; have h2 := hW.box.c2; have h3 := hW.box.c3; have h4 := hW.box.c4; clear hW; go_simp⟩) hHeld ?_
        simp only [put_laws]
        refine anyZ_ready (rs := [1, 3]) (by kernel_rfl) (by simp) ?_
        refine AllZ.cons rfl (fun K hK => ?_) (AllZ.cons rfl (fun K hK => ?_) AllZ.nil)
        · go_simp
          refine (theirsV_s A c S _ hHeld.st.vals hs3).mono ?_
          rintro e wa ⟨T2, tc2, rfl, hT2, hb⟩
          try go_simp
          have hPrev := hHeld
          have hHeld := hHeld.below hb
          have hT2 : VK T2 S wa := ⟨hT2⟩
          have hBl := hBl.below hb
          clear hPrev
          refine hK.out _ _ hHeld (fun hHeld => ?_)
          clear hK K
          refine anyZ_ready (rs := [3]) (by kernel_rfl) (by simp) ?_
          refine AllZ.cons rfl (fun K hK => ?_) AllZ.nil
          go_simp
          have hNN : IK (some ⟨wa.heap.size, 0, none⟩) [x] [x.e] ((wa.alloc (.cells #[.int .i64 x.e.id, .bool x.e.com, .bool x.e.ovr, .slice x.A x.e.rd.length x.c, .slice x.B x.e.wt.length x.d] 36))) := ⟨one_it (HRD.out.below (hBl.out) (Nat.le_refl _))⟩
          have hPrev := hHeld
          have hHeld := hHeld.below (show Below _ _ ((wa.alloc (.cells #[.int .i64 x.e.id, .bool x.e.com, .bool x.e.ovr, .slice x.A x.e.rd.length x.c, .slice x.B x.e.wt.length x.d] 36))) from Rn.below_new (wa) (.cells (entA x) 36))
          have hBl := hBl.below (show Below _ _ ((wa.alloc (.cells #[.int .i64 x.e.id, .bool x.e.com, .bool x.e.ovr, .slice x.A x.e.rd.length x.c, .slice x.B x.e.wt.length x.d] 36))) from Rn.below_new (wa) (.cells (entA x) 36))
          have hT2 := hT2.below (show Below _ _ ((wa.alloc (.cells #[.int .i64 x.e.id, .bool x.e.com, .bool x.e.ovr, .slice x.A x.e.rd.length x.c, .slice x.B x.e.wt.length x.d] 36))) from Rn.below_new (wa) (.cells (entA x) 36))
          generalize (wa.alloc (.cells #[.int .i64 x.e.id, .bool x.e.com, .bool x.e.ovr, .slice x.A x.e.rd.length x.c, .slice x.B x.e.wt.length x.d] 36)) = w4 at *
          clear hPrev
          refine hK.out _ _ hHeld (fun hHeld => ?_)
          clear hK K
          refine anyZ_ready (rs := [4]) (by kernel_rfl) (by simp) ?_
          refine AllZ.cons rfl (fun K hK => ?_) AllZ.nil
          go_simp
          refine (entries_one _ _ x _ hNN.at_ HFX.out.1 HFX.out.2).mono ?_
          rintro e wb ⟨ge, ec, A1, c1, B1, d1, rfl, hE, hb⟩
          try go_simp
          have hPrev := hHeld
          have hHeld := hHeld.below hb
          have hE : IK (some ⟨ge, 0, none⟩) [(⟨x.e, A1, c1, B1, d1⟩ : Xc)] [x.e] wb := ⟨hE⟩
          clear hNN
          have hBl := hBl.below hb
          have hT2 := hT2.below hb
          clear hPrev
          refine hK.out _ _ hHeld (fun hHeld => ?_)
          clear hK K
          refine take_z 5 48 (.pointer (some ⟨ge, 0, none⟩)) rfl rfl (by kernel_rfl) (by kernel_rfl) (by kernel_rfl) (by kernel_rfl) (fun _ _ _ h => h) (Or.inl ⟨by rfl, by intro W hW; clear hW; go_simp⟩) hHeld ?_
          simp only [put_laws]
          refine anyZ_ready (rs := [6]) (by kernel_rfl) (by simp) ?_
          refine AllZ.cons rfl (fun K hK => ?_) AllZ.nil
          have hrow := hE.at_.row
          obtain ⟨ade, ee, q0, q1, q2, q3, q4⟩ := row_one hrow
          cases ee
          go_simp
          have hPrev := hHeld
          clear hPrev hrow q0 q1 q2 q3 q4
          refine hK.out _ _ hHeld (fun hHeld => ?_)
          clear hK K
          refine anyZ_ready (rs := [7]) (by kernel_rfl) (by simp) ?_
          refine AllZ.cons rfl (fun K hK => ?_) AllZ.nil
          go_simp
          refine (does_s T2 tc2 S SD bF ⟨x.e, A1, c1, B1, d1⟩ _ hT2.at_ (hE.at_.rd _ (List.mem_singleton.2 rfl)) HFX.out.1 HFX.out.2 hs3 ESD.out EbF.out).mono ?_
          rintro e wc ⟨D, dc, rfl, hD, hb⟩
          try go_simp
          have hPrev := hHeld
          have hHeld := hHeld.below hb
          have hD : VK D SD wc := ⟨hD⟩
          have hBl := hBl.below hb
          have hT2 := hT2.below hb
          have hE := hE.below hb
          clear hPrev
          refine hK.out _ _ hHeld (fun hHeld => ?_)
          clear hK K
          refine take_z 8 42 (.tuple #[(.slice D SD.length dc), .bool bF]) rfl rfl (by kernel_rfl) (by kernel_rfl) (by kernel_rfl) (by kernel_rfl) (fun _ _ _ h => h) (Or.inl ⟨by rfl, by intro W hW; clear hW; go_simp⟩) hHeld ?_
          simp only [put_laws]
          refine take_z 9 51 ((.slice D SD.length dc)) rfl rfl (by kernel_rfl) (by kernel_rfl) (by kernel_rfl) (by kernel_rfl) (fun _ _ _ h => h) (Or.inl ⟨by rfl, by intro W hW; clear hW; go_simp⟩) hHeld ?_
          simp only [put_laws]
          refine take_e 52 (.bool bF) rfl rfl (by kernel_rfl) (by kernel_rfl) (by kernel_rfl) (fun _ _ _ h => h) (Or.inl ⟨by rfl, by intro W hW; clear hW; go_simp⟩) ?_
          simp only [put_laws]
          refine anyZ_ready (rs := [11]) (by kernel_rfl) (by simp) ?_
          refine AllZ.last rfl rfl (fun K hK => ?_)
          go_simp
          refine hK.out _ _ ?_
          clear hK K
          refine anyZ_ready (rs := [12]) (by kernel_rfl) (by simp) ?_
          refine AllZ.last rfl rfl (fun K hK => ?_)
          go_simp
          refine hK.out _ _ ?_
          clear hK K
          refine anyZ_done (by kernel_rfl) ?_ _
          refine NoPanic.normal ?_
          have HTC := Lib.hid hHeld
          have HDC := Lib.hid hD.at_
          have HBC := Lib.hid hBl.out
          clear hHeld hD hBl hT2 hE
          have b0 := HTC.out.box.c0
          have b1 := HTC.out.box.c1
          have b2 := HTC.out.box.c2
          have b3 := HTC.out.box.c3
          have b4 := HTC.out.box.c4
          go_wp2_with fail
          refine (rdoes_any A c S x _ HTC.out.st.vals (HRD.out.below HBC.out (Nat.le_refl _)) HFX.out.1 HFX.out.2 hs3 HC.out.1 HC.out.2).mono ?_
          rw [ESD.out, EbF.out]
          rintro e wd ⟨E5, ec5, rfl, _, _, hE5, hb⟩
          have DD := Lib.hid (at_below HDC.out hb)
          have EE := Lib.hid hE5
          have BD := Lib.hid (HBC.out.trans (hb.mono HBC.out.size))
          clear hE5 hb b0 b1 b2 b3 b4
          go_wp2_with fail
          refine (valuesV_s _ _ _ _ DD.out (by omega)).mono ?_
          rintro e we ⟨VA, va, rfl, hV, hb⟩
          have VV := Lib.hid hV
          have EE2 := Lib.hid (at_below EE.out hb)
          have BE := Lib.hid (BD.out.trans (hb.mono BD.out.size))
          clear hV hb
          go_wp2_with fail
          refine (vsame_yes _ _ _ _ _ _ VV.out EE2.out (by omega)).mono ?_
          rintro e wf ⟨rfl, hb⟩
          have BF := Lib.hid (BE.out.trans (hb.mono BE.out.size))
          clear hb
          cases bF with
          | true =>
            go_wp2
            go_roundw
            case rel => exact ⟨k + 1, by omega, by go_num, HWB.out.trans (BF.out.mono HWB.out.size)⟩
            case measure => simp [intOf]; omega
          | false =>
            go_wp2
            go_roundw
            case rel => exact ⟨k + 1, by omega, by go_num, HWB.out.trans (BF.out.mono HWB.out.size)⟩
            case measure => simp [intOf]; omega
        · go_simp
          have hNN : IK (some ⟨w1.heap.size, 0, none⟩) [x] [x.e] ((w1.alloc (.cells #[.int .i64 x.e.id, .bool x.e.com, .bool x.e.ovr, .slice x.A x.e.rd.length x.c, .slice x.B x.e.wt.length x.d] 36)).drew) := ⟨one_it (HRD.out.below (hBl.out) (Nat.le_refl _))⟩
          have hPrev := hHeld
          have hHeld := hHeld.below (show Below _ _ ((w1.alloc (.cells #[.int .i64 x.e.id, .bool x.e.com, .bool x.e.ovr, .slice x.A x.e.rd.length x.c, .slice x.B x.e.wt.length x.d] 36)).drew) from Rn.below_new (w1.drew) (.cells (entA x) 36))
          have hBl := hBl.below (show Below _ _ ((w1.alloc (.cells #[.int .i64 x.e.id, .bool x.e.com, .bool x.e.ovr, .slice x.A x.e.rd.length x.c, .slice x.B x.e.wt.length x.d] 36)).drew) from Rn.below_new (w1.drew) (.cells (entA x) 36))
          generalize (w1.alloc (.cells #[.int .i64 x.e.id, .bool x.e.com, .bool x.e.ovr, .slice x.A x.e.rd.length x.c, .slice x.B x.e.wt.length x.d] 36)).drew = w4 at *
          clear hPrev
          refine hK.out _ _ hHeld (fun hHeld => ?_)
          clear hK K
          refine anyZ_ready (rs := [1]) (by kernel_rfl) (by simp) ?_
          refine AllZ.cons rfl (fun K hK => ?_) AllZ.nil
          go_simp
          refine (theirsV_s A c S _ hHeld.st.vals hs3).mono ?_
          rintro e wa ⟨T2, tc2, rfl, hT2, hb⟩
          try go_simp
          have hPrev := hHeld
          have hHeld := hHeld.below hb
          have hT2 : VK T2 S wa := ⟨hT2⟩
          have hBl := hBl.below hb
          have hNN := hNN.below hb
          clear hPrev
          refine hK.out _ _ hHeld (fun hHeld => ?_)
          clear hK K
          refine anyZ_ready (rs := [4]) (by kernel_rfl) (by simp) ?_
          refine AllZ.cons rfl (fun K hK => ?_) AllZ.nil
          go_simp
          refine (entries_one _ _ x _ hNN.at_ HFX.out.1 HFX.out.2).mono ?_
          rintro e wb ⟨ge, ec, A1, c1, B1, d1, rfl, hE, hb⟩
          try go_simp
          have hPrev := hHeld
          have hHeld := hHeld.below hb
          have hE : IK (some ⟨ge, 0, none⟩) [(⟨x.e, A1, c1, B1, d1⟩ : Xc)] [x.e] wb := ⟨hE⟩
          clear hNN
          have hBl := hBl.below hb
          have hT2 := hT2.below hb
          clear hPrev
          refine hK.out _ _ hHeld (fun hHeld => ?_)
          clear hK K
          refine take_z 5 48 (.pointer (some ⟨ge, 0, none⟩)) rfl rfl (by kernel_rfl) (by kernel_rfl) (by kernel_rfl) (by kernel_rfl) (fun _ _ _ h => h) (Or.inl ⟨by rfl, by intro W hW; clear hW; go_simp⟩) hHeld ?_
          simp only [put_laws]
          refine anyZ_ready (rs := [6]) (by kernel_rfl) (by simp) ?_
          refine AllZ.cons rfl (fun K hK => ?_) AllZ.nil
          have hrow := hE.at_.row
          obtain ⟨ade, ee, q0, q1, q2, q3, q4⟩ := row_one hrow
          cases ee
          go_simp
          have hPrev := hHeld
          clear hPrev hrow q0 q1 q2 q3 q4
          refine hK.out _ _ hHeld (fun hHeld => ?_)
          clear hK K
          refine anyZ_ready (rs := [7]) (by kernel_rfl) (by simp) ?_
          refine AllZ.cons rfl (fun K hK => ?_) AllZ.nil
          go_simp
          refine (does_s T2 tc2 S SD bF ⟨x.e, A1, c1, B1, d1⟩ _ hT2.at_ (hE.at_.rd _ (List.mem_singleton.2 rfl)) HFX.out.1 HFX.out.2 hs3 ESD.out EbF.out).mono ?_
          rintro e wc ⟨D, dc, rfl, hD, hb⟩
          try go_simp
          have hPrev := hHeld
          have hHeld := hHeld.below hb
          have hD : VK D SD wc := ⟨hD⟩
          have hBl := hBl.below hb
          have hT2 := hT2.below hb
          have hE := hE.below hb
          clear hPrev
          refine hK.out _ _ hHeld (fun hHeld => ?_)
          clear hK K
          refine take_z 8 42 (.tuple #[(.slice D SD.length dc), .bool bF]) rfl rfl (by kernel_rfl) (by kernel_rfl) (by kernel_rfl) (by kernel_rfl) (fun _ _ _ h => h) (Or.inl ⟨by rfl, by intro W hW; clear hW; go_simp⟩) hHeld ?_
          simp only [put_laws]
          refine take_z 9 51 ((.slice D SD.length dc)) rfl rfl (by kernel_rfl) (by kernel_rfl) (by kernel_rfl) (by kernel_rfl) (fun _ _ _ h => h) (Or.inl ⟨by rfl, by intro W hW; clear hW; go_simp⟩) hHeld ?_
          simp only [put_laws]
          refine take_e 52 (.bool bF) rfl rfl (by kernel_rfl) (by kernel_rfl) (by kernel_rfl) (fun _ _ _ h => h) (Or.inl ⟨by rfl, by intro W hW; clear hW; go_simp⟩) ?_
          simp only [put_laws]
          refine anyZ_ready (rs := [11]) (by kernel_rfl) (by simp) ?_
          refine AllZ.last rfl rfl (fun K hK => ?_)
          go_simp
          refine hK.out _ _ ?_
          clear hK K
          refine anyZ_ready (rs := [12]) (by kernel_rfl) (by simp) ?_
          refine AllZ.last rfl rfl (fun K hK => ?_)
          go_simp
          refine hK.out _ _ ?_
          clear hK K
          refine anyZ_done (by kernel_rfl) ?_ _
          refine NoPanic.normal ?_
          have HTC := Lib.hid hHeld
          have HDC := Lib.hid hD.at_
          have HBC := Lib.hid hBl.out
          clear hHeld hD hBl hT2 hE
          have b0 := HTC.out.box.c0
          have b1 := HTC.out.box.c1
          have b2 := HTC.out.box.c2
          have b3 := HTC.out.box.c3
          have b4 := HTC.out.box.c4
          go_wp2_with fail
          refine (rdoes_any A c S x _ HTC.out.st.vals (HRD.out.below HBC.out (Nat.le_refl _)) HFX.out.1 HFX.out.2 hs3 HC.out.1 HC.out.2).mono ?_
          rw [ESD.out, EbF.out]
          rintro e wd ⟨E5, ec5, rfl, _, _, hE5, hb⟩
          have DD := Lib.hid (at_below HDC.out hb)
          have EE := Lib.hid hE5
          have BD := Lib.hid (HBC.out.trans (hb.mono HBC.out.size))
          clear hE5 hb b0 b1 b2 b3 b4
          go_wp2_with fail
          refine (valuesV_s _ _ _ _ DD.out (by omega)).mono ?_
          rintro e we ⟨VA, va, rfl, hV, hb⟩
          have VV := Lib.hid hV
          have EE2 := Lib.hid (at_below EE.out hb)
          have BE := Lib.hid (BD.out.trans (hb.mono BD.out.size))
          clear hV hb
          go_wp2_with fail
          refine (vsame_yes _ _ _ _ _ _ VV.out EE2.out (by omega)).mono ?_
          rintro e wf ⟨rfl, hb⟩
          have BF := Lib.hid (BE.out.trans (hb.mono BE.out.size))
          clear hb
          cases bF with
          | true =>
            go_wp2
            go_roundw
            case rel => exact ⟨k + 1, by omega, by go_num, HWB.out.trans (BF.out.mono HWB.out.size)⟩
            case measure => simp [intOf]; omega
          | false =>
            go_wp2
            go_roundw
            case rel => exact ⟨k + 1, by omega, by go_num, HWB.out.trans (BF.out.mono HWB.out.size)⟩
            case measure => simp [intOf]; omega
      · have hlt' : ¬ (k : Int) < (L.length : Int) := by omega
        have RR := Lib.hid (at_below R_6.out HW.out)
        have QR := Lib.hid (at_below Q_6.out HW.out)
        go_wp2_with fail
        refine (valuesV_s _ _ _ _ RR.out (by omega)).mono ?_
        rintro e w41 ⟨VA, va, rfl, hV, hb⟩
        have S_41 := Lib.hid (SR.out.below hb)
        have R_41 := Lib.hid (at_below RR.out hb)
        have Q_41 := Lib.hid (at_below QR.out hb)
        have ya_41 := Lib.hid hV
        clear hV hb
        go_wp2_with fail
        refine (vsame_yes _ _ _ _ _ _ ya_41.out Q_41.out (by omega)).mono ?_
        rintro e w42 ⟨rfl, hb⟩
        have S_42 := Lib.hid (S_41.out.below hb)
        have R_42 := Lib.hid (at_below R_41.out hb)
        have Q_42 := Lib.hid (at_below Q_41.out hb)
        have ya_42 := Lib.hid (at_below ya_41.out hb)
        clear  hb
        go_wp2_with fail
        refine (entries_s B d X L _ S_42.out.ents HF.out hl4).mono ?_
        rintro e w43 ⟨U5, uc5, X5, rfl, _, _, hU5, hb⟩
        have S_43 := Lib.hid (S_42.out.below hb)
        have U5_43 := Lib.hid hU5
        clear hU5 hb
        go_wp2_with fail
        refine (committed_s _ _ X5 L M _ U5_43.out HF.out hl4 EMM.out).mono ?_
        rintro e w44 ⟨U6, uc6, X6, rfl, _, _, hU6, hb⟩
        have S_44 := Lib.hid (S_43.out.below hb)
        have U5_44 := Lib.hid (it_below U5_43.out hb)
        have U6_44 := Lib.hid hU6
        clear hU6 hb
        go_wp2_with fail
        refine (oursE_s _ _ X6 M _ U6_44.out HFM.out hM4).mono ?_
        rintro e w45 ⟨U7, uc7, X7, rfl, _, _, hU7, hb⟩
        have S_45 := Lib.hid (S_44.out.below hb)
        have U6_45 := Lib.hid (it_below U6_44.out hb)
        have U7_45 := Lib.hid hU7
        clear hU7 hb
        go_wp2_with fail
        refine (rcommitted_s B d X L M _ S_45.out.ents hl4 EMM.out).mono ?_
        rintro e w46 ⟨U8, uc8, X8, rfl, _, _, hU8, hb⟩
        have S_46 := Lib.hid (S_45.out.below hb)
        have U7_46 := Lib.hid (it_below U7_45.out hb)
        have U8_46 := Lib.hid hU8
        clear hU8 hb
        go_wp2_with fail
        refine (sameE_yes _ _ _ _ X7 X8 M _ U7_46.out U8_46.out HFM.out hM4).mono ?_
        rintro e w47 ⟨rfl, hb⟩
        have S_47 := Lib.hid (S_46.out.below hb)
        have U7_47 := Lib.hid (it_below U7_46.out hb)
        have U8_47 := Lib.hid (it_below U8_46.out hb)
        clear  hb
        have hcl := cl_le z
        obtain ⟨FI, hFI⟩ : ∃ Z, firsts (cl z) = Z := ⟨_, rfl⟩
        have hFL : FI.length ≤ 300 := by rw [← hFI]; simp [firsts]; omega
        have EFI := Lib.hid hFI
        clear hFI hcl
        go_wp2_with fail
        refine (EFI.out ▸ begin_s z _).mono ?_
        rintro e w48 ⟨F1, fc1, rfl, hF1, hb⟩
        have S_48 := Lib.hid (S_47.out.below hb)
        have F1_48 := Lib.hid hF1
        clear hF1 hb
        go_wp2_with fail
        refine (valuesV_s _ _ _ _ F1_48.out hFL).mono ?_
        rintro e w49 ⟨F2, fc2, rfl, hF2, hb⟩
        have S_49 := Lib.hid (S_48.out.below hb)
        have F1_49 := Lib.hid (at_below F1_48.out hb)
        have F2_49 := Lib.hid hF2
        clear hF2 hb
        go_wp2_with fail
        refine (EFI.out ▸ rbegin_s z _).mono ?_
        rintro e w50 ⟨F3, fc3, rfl, hF3, hb⟩
        have S_50 := Lib.hid (S_49.out.below hb)
        have F1_50 := Lib.hid (at_below F1_49.out hb)
        have F2_50 := Lib.hid (at_below F2_49.out hb)
        have F3_50 := Lib.hid hF3
        clear hF3 hb
        go_wp2_with fail
        refine (vsame_yes _ _ _ _ _ _ F2_50.out F3_50.out hFL).mono ?_
        rintro e w51 ⟨rfl, hb⟩
        have S_51 := Lib.hid (S_50.out.below hb)
        have F1_51 := Lib.hid (at_below F1_50.out hb)
        have F2_51 := Lib.hid (at_below F2_50.out hb)
        have F3_51 := Lib.hid (at_below F3_50.out hb)
        clear  hb
        go_wp2
        go_ret
        exact ⟨rfl, S_51.out.bel⟩
end Go.Proofs.Ytkbgnapbhboplaa.Rp
