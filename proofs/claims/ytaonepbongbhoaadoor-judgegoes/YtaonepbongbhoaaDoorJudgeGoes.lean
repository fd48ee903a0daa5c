/-
  JudgeGoes: the order that is found goes by the graph, and has each transaction once.
-/
import Derived.Test.YtaonepbongbhoaaDoorKQ
namespace Go.Proofs.YtaonepbongbhoaaDoor.Jd
open Go.RowKit
open Hi (Ev encE crs crL EvArg theirs_any idsL MB mat_box graph_any GrPost)
def GoRel (w : World) (B : Option Addr) (L : List Ev) (q : Nat) (m : Mm.Gr) (D : Option Addr) (o : List Int) (n : Nat) (i : Value) (wr : World) : Prop := ∃ k : Nat, k ≤ n ∧ i = .int .i64 k ∧ JG w B L q m D o wr
set_option maxRecDepth 100000 in
set_option maxHeartbeats 8000000 in
theorem judgeGoes_walk (A : Option Addr) (n c : Nat) (L : List Ev) (w : World) (h : EvArg w A n c L) (hT : TabAt w) :
    Calls Tryd.prog 3 #[.slice A n c] w fun e w' => e = .returned (.bool true) ∧ Below w.heap.size w w' := by
  obtain ⟨rfl, hnc, hcm, hat, hok⟩ := h
  have H := Lib.hid hat
  have HOK := Lib.hid hok
  have HT := Lib.hid hT
  have hN : (L.length : Int) ≤ 9223372036854775807 := by unfold maxLen at hcm; omega
  clear hat hok hnc hcm hT
  by_cases hl : L.length ≤ 100
  · have HL := Lib.hid (show L.length ≤ 2000 from by omega)
    have HL3 := Lib.hid (show L.length ≤ 300 from by omega)
    have HN32 := Lib.hid (Hi.crL_ok HL.out).2
    go_enter Tryd.func3, Tryd.ntmps3
    go_wp2_with fail
    refine (jalive_any _).mono ?_
    rintro r w1 ⟨rfl, hb1⟩
    have HB1 := Lib.hid hb1
    clear hb1
    go_wp2_with fail
    refine (theirs_any A c L w1 (H.out.below HB1.out (Nat.le_refl _)) HL3.out).mono ?_
    rintro r w2 ⟨B2, d2, rfl, hd1, hd2, hat2, hb2⟩
    have HB2 := Lib.hid (HB1.out.trans (hb2.mono HB1.out.size))
    have HA2 := Lib.hid hat2
    clear hat2 hb2 HB1 hd1 hd2
    have HG := Lib.hid (graph_any B2 d2 L w2 HA2.out HOK.out HL.out)
    unfold GrPost at HG
    go_wp2_with fail
    refine HG.out.mono ?_
    rintro r w4 ⟨m, rfl, his, hb4⟩
    have HIS := Lib.hid his
    have HB4 := Lib.hid (HB2.out.trans (hb4.mono HB2.out.size))
    have HA4 := Lib.hid (at_below HA2.out hb4)
    have HFF := Lib.hid (free_fnd HL.out his)
    clear his hb4 HG
    go_wp2_with (refine wpList_store_row rfl 29 (.tmp 4) (.tmp 22) rfl w4.heap.size (matA m) rfl rfl 29 _ (heap_alloc_new _ _) (matInfo m) (by rw [matA_size]; rfl) (matA_one _) ?_; generalize hw5 : World.setRow _ w4.heap.size (matA m) = w5)
    have HX := Lib.hid (show MB w4 m w5 from by rw [← hw5]; exact mat_box w4 m)
    clear hw5
    have HG5 := Lib.hid (show JG w B2 L w4.heap.size m none [] w5 from ⟨at_below HA4.out HX.out.bel, HX.out.bx, Rn.At.nil _ _, HB4.out.trans (HX.out.bel.mono HB4.out.size)⟩)
    clear HX
    generalize w4.heap.size = q at HG5 ⊢
    have HFI := Lib.hid (find_any B2 d2 L w5 HG5.out.ev HOK.out HL.out)
    unfold FindPost at HFI
    generalize hfb : fndB L = fb at HFI HFF
    have HFB := Lib.hid hfb
    clear hfb
    refine HFI.out.mono ?_
    rintro r w6 ⟨v, rfl, hown, hb6⟩
    obtain ⟨D, e6, rfl, h61, h62, hat6, _⟩ := hown.slice
    have HG6 := Lib.hid (show JG w B2 L q m D (fndO L) w6 from ⟨at_below HG5.out.ev hb6, HG5.out.bx.below hb6, hat6, HG5.out.bel.trans (hb6.mono HG5.out.bel.size)⟩)
    have HCP := Lib.hid (show (fndO L).length ≤ e6 ∧ e6 ≤ maxLen from ⟨h61, h62⟩)
    have HLN := Lib.hid (fndO_len HL.out)
    clear hown hb6 h61 h62 hat6 HFI
    have HT6 := Lib.hid (HT.out.below HG6.out.bel HT.out.lt)
    -- whether it is found is whether the graph may be gone by
    obtain ⟨w7, HG7, hK⟩ : ∃ w7, Hid (JG w B2 L q m D (fndO L) w7) ∧ True := ⟨w6, HG6, trivial⟩
    clear HG7 hK w7
    cases hcs : (crs L).isSome with
    | false =>
      have hfb : fb = false := by rw [HFF.out, hcs]; rfl
      have HO := Lib.hid (show fndO L = [] from fndO_no (by rw [HFB.out, hfb]))
      have HOP := Lib.hid (show opqB L = false from by unfold opqB; rw [HFB.out, hfb]; rfl)
      subst hfb
      rw [HO.out]
      clear hcs HFF
      go_wp2_with fail
      refine (opaque_any B2 d2 L w6 HG6.out.ev HOK.out HL.out).mono ?_
      rw [HOP.out]
      rintro r w8 ⟨rfl, hb8⟩
      have HB8 := Lib.hid (HG6.out.bel.trans (hb8.mono HG6.out.bel.size))
      clear hb8
      go_wp2
      go_ret
      exact ⟨rfl, HB8.out⟩
    | true =>
      have hfm : fb = Mm.free m := by rw [HFF.out, hcs, Bool.true_and]
      clear HFF hcs
      go_wp2_with (refine wpList_load_rowG rfl 29 (.tmp 4) rfl q rfl 29 (matA m) (0, 0) _ HG6.out.bx Tryd.underlying29 rfl (matInfo m) ?_)
      refine (free_any m w6 HIS.out.ok HT6.out).mono ?_
      rw [← hfm]
      rintro r w7 ⟨rfl, hb7⟩
      have HG7 := Lib.hid (HG6.out.below hb7)
      clear hb7 hfm
      cases fb with
      | false =>
        have HO := Lib.hid (show fndO L = [] from fndO_no HFB.out)
        have HOP := Lib.hid (show opqB L = false from by unfold opqB; rw [HFB.out]; rfl)
        rw [HO.out]
        go_wp2_with fail
        refine (opaque_any B2 d2 L w7 HG7.out.ev HOK.out HL.out).mono ?_
        rw [HOP.out]
        rintro r w8 ⟨rfl, hb8⟩
        have HB8 := Lib.hid (HG7.out.bel.trans (hb8.mono HG7.out.bel.size))
        clear hb8
        go_wp2
        go_ret
        exact ⟨rfl, HB8.out⟩
      | true =>
        have HFD := Lib.hid ((fndB_iff L).1 HFB.out)
        have HFL := Lib.hid (fndO_yes HFB.out)
        have HLE := Lib.hid (show (fndO L).length = (crL L).length from by rw [HFL.out]; exact fndL_len L HFD.out)
        have HOP := Lib.hid (show opqB L = fitB L (fndO L) from by unfold opqB; rw [HFB.out, HFL.out, Bool.true_and])
        obtain ⟨o, ho⟩ : ∃ o, o = fndO L := ⟨_, rfl⟩
        rw [← ho] at HG7 HCP HLN HFL HLE HOP ⊢
        clear ho HG6
        have hoN : (o.length : Int) ≤ 32 := by have := HLN.out; omega
        have hoC : (o.length : Int) ≤ (e6 : Int) := by have := HCP.out.1; omega
        go_wp2
        go_loopw [48] (GoRel w B2 L q m D o o.length) (fun i _ => o.length - (intOf i).toNat)
        case atStart => exact ⟨0, Nat.zero_le _, rfl, HG7.out⟩
        case round =>
          obtain ⟨p, hp, rfl, hjg⟩ := hrel
          have HJ := Lib.hid hjg
          clear hjg
          by_cases hlt : p < o.length
          · obtain ⟨x, hx⟩ : ∃ x, o[p]? = some x := ⟨_, List.getElem?_eq_getElem hlt⟩
            obtain ⟨ad, hDe, c0⟩ := atI HJ.out.ord hx
            rw [HFL.out] at hx
            obtain ⟨i, hi, rfl⟩ := fndL_at hx
            have HI := Lib.hid hi
            have HIL := Lib.hid ((find_good HFD.out.2).1.lt i (List.mem_of_getElem? hi))
            have HPL := Lib.hid hlt
            have HDE := Lib.hid hDe
            subst hDe
            clear hx hi HDE
            have hlt' : (p : Int) < (o.length : Int) := by omega
            have h0 : (0 : Int) ≤ (p : Int) := by omega
            have hpe : (p : Int) ≤ (e6 : Int) := by omega
            go_wp2
            go_loopw [57] (GoRel w B2 L q m (some ad) o p) (fun i _ => p - (intOf i).toNat)
            case atStart => exact ⟨0, Nat.zero_le _, rfl, HJ.out⟩
            case round =>
              obtain ⟨k, hk, rfl, hjg⟩ := hrel
              have HJ := Lib.hid hjg
              clear hjg
              by_cases hlt2 : k < p
              · have hko : k < o.length := by have := HPL.out; omega
                obtain ⟨y, hy⟩ : ∃ y, o[k]? = some y := ⟨_, List.getElem?_eq_getElem hko⟩
                obtain ⟨ad2, hD2, c1⟩ := atI HJ.out.ord hy
                obtain rfl := Option.some.inj hD2
                rw [HFL.out] at hy
                obtain ⟨j, hj, rfl⟩ := fndL_at hy
                have HED := Lib.hid (edge_no HIS.out HN32.out HFD.out.2 hj HI.out (Nat.le_of_lt hlt2))
                have hij : i ≠ j := fun e => by
                  subst e
                  have hkl := (List.getElem?_eq_some_iff.1 hj).1
                  have := (List.getElem?_inj hkl (find_good HFD.out.2).1.nd).1 (hj.trans HI.out.symm)
                  omega
                have HI3 := Lib.hid (show i < 32 by have := HIL.out; have := HN32.out; omega)
                have hjl := (find_good HFD.out.2).1.lt j (List.mem_of_getElem? hj)
                have HJ3 := Lib.hid (show j < 32 by have := HN32.out; omega)
                have b0 : (((i : Int) + 1) == ((j : Int) + 1)) = false := beq_eq_false_iff_ne.2 (by omega)
                have hi32 : (i : Int) < 32 := by have := HI3.out; omega
                have hj32 : (j : Int) < 32 := by have := HJ3.out; omega
                have e1 : (i : Int) + 1 - 1 = (i : Int) := by omega
                have e2 : (j : Int) + 1 - 1 = (j : Int) := by omega
                have hlt2' : (k : Int) < (p : Int) := by omega
                have hk0 : (0 : Int) ≤ (k : Int) := by omega
                have HK2 := Lib.hid hlt2
                clear hy hj hD2 hko hij hjl hlt2
                go_wp2_with (refine wpList_load_rowG rfl 29 (.tmp 4) rfl q rfl 29 (matA m) (0, 0) _ HJ.out.bx Tryd.underlying29 rfl (matInfo m) ?_)
                refine (mhas_in m i (j : Nat) wr HIS.out.ok HI3.out (by omega) (by omega)).mono ?_
                rw [HED.out]
                rintro r w8 ⟨rfl, hb8⟩
                have HJ8 := Lib.hid (HJ.out.below hb8)
                clear hb8 c0 c1
                go_wp2
                go_round
                case rel => exact ⟨k + 1, by have := HK2.out; omega, by go_num, HJ8.out⟩
                case measure => simp [intOf]; have := HK2.out; omega
              · have hlt2' : ¬ (k : Int) < (p : Int) := by omega
                go_wp2
                exact ⟨⟨p + 1, by have := HPL.out; omega, by go_num, HJ.out⟩, by simp [intOf]; have := HPL.out; omega⟩
          · have hlt' : ¬ (p : Int) < (o.length : Int) := by omega
            have HID := Lib.hid (Hi.ids_any B2 d2 L wr HJ.out.ev HOK.out HL.out)
            go_wp2_with fail
            refine HID.out.mono ?_
            rintro r w8 ⟨D8, e8, rfl, _, _, _, hb8⟩
            have HJ8 := Lib.hid (HJ.out.below hb8)
            clear hb8
            rw [show (idsL (crL L).length).length = o.length from by rw [HLE.out]; simp [idsL]]
            go_wp2_with fail
            refine (opaque_any B2 d2 L w8 HJ8.out.ev HOK.out HL.out).mono ?_
            rw [HOP.out]
            rintro r w9 ⟨rfl, hb9⟩
            have HJ9 := Lib.hid (HJ8.out.below hb9)
            clear hb9
            go_wp2_with fail
            refine (fits_any B2 D d2 e6 L o w9 HJ9.out.ev HOK.out HL.out HJ9.out.ord HCP.out.1 HCP.out.2 (by have := HLN.out; omega)).mono ?_
            rintro r w10 ⟨rfl, hb10⟩
            have HJ10 := Lib.hid (HJ9.out.below hb10)
            clear hb10
            generalize fitB L o = fo
            cases fo with
            | false =>
              go_wp2
              go_ret
              exact ⟨rfl, HJ10.out.bel⟩
            | true =>
              go_wp2
              go_ret
              exact ⟨rfl, HJ10.out.bel⟩
  · have hgt : (L.length : Int) > 100 := by omega
    clear hl
    go_enter Tryd.func3, Tryd.ntmps3
    go_wp2_with fail
    refine (jalive_any _).mono ?_
    rintro r w1 ⟨rfl, hb1⟩
    have HB1 := Lib.hid hb1
    clear hb1
    go_wp2
    go_ret
    exact ⟨rfl, HB1.out⟩
end Go.Proofs.YtaonepbongbhoaaDoor.Jd
