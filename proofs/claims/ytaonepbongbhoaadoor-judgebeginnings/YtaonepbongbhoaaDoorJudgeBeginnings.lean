/-
  JudgeBeginnings: of what may be each beginning goes by its graph, without a way round.
-/
import Derived.Test.YtaonepbongbhoaaDoorKQ
namespace Go.Proofs.YtaonepbongbhoaaDoor.Jd
open Go.RowKit
open Hi (Ev encE crs crL EvArg theirs_any idsL MB mat_box graph_any GrPost)
set_option maxRecDepth 100000 in
set_option maxHeartbeats 8000000 in
theorem judgeBeginnings_walk (A : Option Addr) (n c : Nat) (L : List Ev) (a1 : Nat) (w : World) (h : EvArg w A n c L) (ha1 : a1 ≤ 255) (hT : TabAt w) :
    Calls Tryd.prog 4 #[.slice A n c, .int .u8 (a1 : Nat)] w fun e w' => e = .returned (.bool true) ∧ Below w.heap.size w w' := by
  obtain ⟨rfl, hnc, hcm, hat, hok⟩ := h
  have H := Lib.hid hat
  have HOK := Lib.hid hok
  have HT := Lib.hid hT
  have hN : (L.length : Int) ≤ 9223372036854775807 := by unfold maxLen at hcm; omega
  clear hat hok hnc hcm hT
  by_cases hl : L.length ≤ 100
  · have HL := Lib.hid (show L.length ≤ 2000 from by omega)
    have HL3 := Lib.hid (show L.length ≤ 300 from by omega)
    go_enter Tryd.func4, Tryd.ntmps4
    go_wp2_with fail
    refine (jalive_any _).mono ?_
    rintro r w1 ⟨rfl, hb1⟩
    have HB1 := Lib.hid hb1
    clear hb1
    go_wp2_with fail
    refine (theirs_any A c L w1 (H.out.below HB1.out (Nat.le_refl _)) HL3.out).mono ?_
    rintro r w2 ⟨B2, d2, rfl, hd1, hd2, hat2, hb2⟩
    have HB2 := Lib.hid (HB1.out.trans (hb2.mono HB1.out.size))
    have HA2 := Lib.hid hat2
    have hd2N : (d2 : Int) ≤ 9223372036854775807 := by unfold maxLen at hd2; omega
    have hLd : (L.length : Int) ≤ (d2 : Int) := by omega
    clear hat2 hb2 HB1 hd1 hd2
    go_wp2_with fail
    refine (opaque_any B2 d2 L w2 HA2.out HOK.out HL.out).mono ?_
    rintro r w3 ⟨rfl, hb3⟩
    have HB3 := Lib.hid (HB2.out.trans (hb3.mono HB2.out.size))
    have HA3 := Lib.hid (at_below HA2.out hb3)
    clear hb3 HB2 HA2
    cases hop : opqB L with
    | false =>
      clear hop
      go_wp2
      go_ret
      exact ⟨rfl, HB3.out⟩
    | true =>
      have hfn : Fnd L := by
        unfold opqB at hop
        exact (fndB_iff L).1 (by cases hb : fndB L with | true => rfl | false => rw [hb] at hop; cases hop)
      obtain ⟨k, hk⟩ : ∃ k : Nat, k = a1 % (L.length + 1) := ⟨_, rfl⟩
      have hkl : k ≤ L.length := by have := Nat.mod_lt a1 (show 0 < L.length + 1 by omega); omega
      have hrem : Int.tmod ((a1 : Nat) : Int) ((L.length : Int) + 1) = (k : Nat) := by
        rw [Int.tmod_eq_emod_of_nonneg (by omega), hk]
        exact (Int.natCast_emod a1 (L.length + 1)).symm
      have HF := Lib.hid (fnd_begin (k := k) HL.out hfn)
      have HFB := Lib.hid (fndB_yes HF.out)
      obtain ⟨M, hM⟩ : ∃ M, M = L.take k := ⟨_, rfl⟩
      rw [← hM] at HF HFB
      have HML := Lib.hid (show M.length = k from by rw [hM, List.length_take]; omega)
      have HMK := Lib.hid (show ∀ e ∈ M, e.ok from fun e he => HOK.out e (List.mem_of_mem_take (hM ▸ he)))
      have HM2 := Lib.hid (show M.length ≤ 2000 from by have := HML.out; have := HL.out; omega)
      have HA3M := Lib.hid (show Rn.At encE w3 B2 M from by rw [hM]; exact HA3.out.take k)
      have HCS := Lib.hid HF.out.1
      clear hop hfn hk hM
      have hne : (L.length : Int) + 1 ≠ 0 := by omega
      have hkd : (k : Int) ≤ (d2 : Int) := by omega
      have hk0 : (0 : Int) ≤ (k : Int) := by omega
      have HG := Lib.hid (graph_any B2 d2 M w3 HA3M.out HMK.out HM2.out)
      unfold GrPost at HG
      rw [HML.out, HCS.out] at HG
      go_wp2_with fail
      refine HG.out.mono ?_
      rintro r w4 ⟨m, rfl, his, hb4⟩
      have HIS := Lib.hid his
      have HB4 := Lib.hid (HB3.out.trans (hb4.mono HB3.out.size))
      have HA4 := Lib.hid (at_below HA3M.out hb4)
      clear his hb4
      go_wp2_with (refine wpList_store_row rfl 29 (.tmp 7) (.tmp 32) rfl w4.heap.size (matA m) rfl rfl 29 _ (heap_alloc_new _ _) (matInfo m) (by rw [matA_size]; rfl) (matA_one _) ?_)
      generalize hw5 : World.setRow _ w4.heap.size (matA m) = w5
      have HX := Lib.hid (show MB w4 m w5 from by rw [← hw5]; exact mat_box w4 m)
      clear hw5
      have HG5 := Lib.hid (show JG w B2 M w4.heap.size m none [] w5 from ⟨at_below HA4.out HX.out.bel, HX.out.bx, Rn.At.nil _ _, HB4.out.trans (HX.out.bel.mono HB4.out.size)⟩)
      clear HX
      generalize w4.heap.size = q at HG5 ⊢
      have HFI := Lib.hid (find_any B2 d2 M w5 HG5.out.ev HMK.out HM2.out)
      rw [HML.out] at HFI
      unfold FindPost at HFI
      rw [HFB.out] at HFI
      go_wp2_with fail
      refine HFI.out.mono ?_
      rintro r w6 ⟨v, rfl, hown, hb6⟩
      obtain ⟨D, e6, rfl, _, _, _, _⟩ := hown.slice
      have HG6 := Lib.hid (HG5.out.below hb6)
      have HLN := Lib.hid (show (fndO M).length = (crL M).length from by rw [fndO_yes HFB.out]; exact fndL_len M HF.out)
      rw [HLN.out]
      clear hown hb6
      have HFR := Lib.hid (show Mm.free m = true from by
        have := free_fnd HM2.out HIS.out
        rw [HFB.out, HCS.out, Bool.true_and] at this
        exact this.symm)
      have HT6 := Lib.hid (HT.out.below HG6.out.bel HT.out.lt)
      go_wp2_with (refine wpList_load_rowG rfl 29 (.tmp 7) rfl q rfl 29 (matA m) (0, 0) _ HG6.out.bx Tryd.underlying29 rfl (matInfo m) ?_)
      refine (free_any m w6 HIS.out.ok HT6.out).mono ?_
      rw [HFR.out]
      rintro r w7 ⟨rfl, hb7⟩
      have HG7 := Lib.hid (HG6.out.below hb7)
      clear hb7
      have HID := Lib.hid (Hi.ids_any B2 d2 M w7 HG7.out.ev HMK.out HM2.out)
      rw [HML.out] at HID
      go_wp2_with fail
      refine HID.out.mono ?_
      rintro r w8 ⟨D8, e8, rfl, _, _, _, hb8⟩
      have HG8 := Lib.hid (HG7.out.below hb8)
      clear hb8
      rw [show (idsL (crL M).length).length = (crL M).length from by simp [idsL]]
      go_wp2
      go_ret
      exact ⟨rfl, HG8.out.bel⟩
  · have hgt : (L.length : Int) > 100 := by omega
    clear hl
    go_enter Tryd.func4, Tryd.ntmps4
    go_wp2_with fail
    refine (jalive_any _).mono ?_
    rintro r w1 ⟨rfl, hb1⟩
    have HB1 := Lib.hid hb1
    clear hb1
    go_wp2
    go_ret
    exact ⟨rfl, HB1.out⟩
end Go.Proofs.YtaonepbongbhoaaDoor.Jd
