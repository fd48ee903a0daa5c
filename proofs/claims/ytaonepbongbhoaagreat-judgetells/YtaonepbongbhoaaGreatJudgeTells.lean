/-
  JudgeTells: whether any order fits any events, the order that goes by their graph, and whether they may be, are the document's.
-/
import Derived.Test.YtaonepbongbhoaaGreatKV
import Derived.Test.YtaonepbongbhoaaGreatKQ
namespace Go.Proofs.YtaonepbongbhoaaGreat.Jd
open Go.RowKit
open Hi (Ev encE crs crL EvArg theirs_any same_ints)
theorem ropaque_any (A : Option Addr) (c : Nat) (L : List Ev) (w : World) (h : Rn.At encE w A L) (hok : ∀ e ∈ L, e.ok) (hl : L.length ≤ 300) (hc : L.length ≤ c) (hcm : c ≤ maxLen) :
    Calls Tryz.prog 12 #[.slice A L.length c] w fun r w' => r = .returned (.bool (opqB L)) ∧ Below w.heap.size w w' := by
  have H := Lib.hid h
  have HOK := Lib.hid hok
  have HL3 := Lib.hid hl
  have HC := Lib.hid (show L.length ≤ c ∧ c ≤ maxLen from ⟨hc, hcm⟩)
  have HF := Lib.hid (rfind_any A c L w h hl hc hcm)
  unfold FindPost at HF
  unfold opqB
  have HLN := Lib.hid (fndO_len (L := L) (by omega))
  clear h hok hl hc hcm
  cases hfb : fndB L with
  | false =>
    rw [hfb] at HF
    clear hfb
    go_enter Tryz.func12, Tryz.ntmps12
    go_wp2_with fail
    refine HF.out.mono ?_
    rintro r w1 ⟨v, rfl, _, hb⟩
    have HB := Lib.hid hb
    clear hb
    go_wp2
    go_ret
    exact ⟨rfl, HB.out⟩
  | true =>
    rw [hfb] at HF
    rw [← fndO_yes hfb]
    clear hfb
    generalize fndO L = o at HF HLN ⊢
    generalize hff : fitB L o = ff
    have HFF := Lib.hid hff
    clear hff
    go_enter Tryz.func12, Tryz.ntmps12
    go_wp2_with fail
    refine HF.out.mono ?_
    rintro r w1 ⟨v, rfl, hown, hb⟩
    obtain ⟨B, d, rfl, h1, h2, hat, _⟩ := hown.slice
    have HB := Lib.hid hb
    have HAT := Lib.hid hat
    clear hown hb hat h1 h2
    go_wp2_with fail
    refine (rfits_any A B c d L o w1 (H.out.below HB.out (Nat.le_refl _)) HOK.out HL3.out HC.out.1 HC.out.2 HAT.out (by have := HLN.out; omega)).mono ?_
    rw [HFF.out]
    rintro r w2 ⟨rfl, hb⟩
    have HB2 := Lib.hid (HB.out.trans (hb.mono HB.out.size))
    clear hb
    go_wp2
    go_ret
    exact ⟨by simp, HB2.out⟩
def IntArg (w : World) (A : Option Addr) (n c : Nat) (o : List Int) : Prop := o.length = n ∧ n ≤ c ∧ c ≤ maxLen ∧ Rn.At Hi.encI w A o
set_option maxRecDepth 100000 in
set_option maxHeartbeats 8000000 in
theorem judgeTells_walk (A : Option Addr) (n c : Nat) (L : List Ev) (B : Option Addr) (k d : Nat) (o : List Int) (w : World) (h : EvArg w A n c L) (h2 : IntArg w B k d o) :
    Calls Tryz.prog 3 #[.slice A n c, .slice B k d] w fun e w' => e = .returned (.bool true) ∧ Below w.heap.size w w' := by
  obtain ⟨rfl, hnc, hcm, hat, hok⟩ := h
  obtain ⟨rfl, hkd, hdm, hao⟩ := h2
  have H := Lib.hid hat
  have HO := Lib.hid hao
  have HOK := Lib.hid hok
  have HC := Lib.hid (show L.length ≤ c ∧ c ≤ maxLen from ⟨hnc, hcm⟩)
  have HD := Lib.hid (show o.length ≤ d ∧ d ≤ maxLen from ⟨hkd, hdm⟩)
  have hN : (L.length : Int) ≤ 9223372036854775807 := by unfold maxLen at hcm; omega
  have hoN : (o.length : Int) ≤ 9223372036854775807 := by unfold maxLen at hdm; omega
  clear hat hok hnc hcm hao hkd hdm
  by_cases hl : L.length ≤ 100
  · by_cases hlo : o.length ≤ 100
    · have HL := Lib.hid (show L.length ≤ 2000 from by omega)
      have HL3 := Lib.hid (show L.length ≤ 300 from by omega)
      have HLO := Lib.hid hlo
      have HLN := Lib.hid (fndO_len HL.out)
      have HX := Lib.hid (show ∀ W, Below w.heap.size w W → Rn.At encE W A L from fun W hb => H.out.below hb (Nat.le_refl _))
      have HY := Lib.hid (show ∀ W, Below w.heap.size w W → Rn.At Hi.encI W B o from fun W hb => HO.out.below hb (Nat.le_refl _))
      go_enter Tryz.func3, Tryz.ntmps3
      go_wp2_with fail
      refine (jalive_any _).mono ?_
      rintro r w1 ⟨rfl, hb1⟩
      have HB1 := Lib.hid hb1
      clear hb1
      go_wp2_with fail
      refine (theirs_any A c L w1 (HX.out _ HB1.out) HL3.out).mono ?_
      rintro r w2 ⟨B2, d2, rfl, _, _, hat2, hb2⟩
      have HB2 := Lib.hid (HB1.out.trans (hb2.mono HB1.out.size))
      have HA2 := Lib.hid hat2
      clear hat2 hb2 HB1
      go_wp2_with fail
      refine (find_any B2 d2 L w2 HA2.out HOK.out HL.out).mono ?_
      unfold FindPost
      rintro r w3 ⟨v3, rfl, hown3, hb3⟩
      obtain ⟨A3, c3, rfl, _, _, hat3, _⟩ := hown3.slice
      have HB3 := Lib.hid (HB2.out.trans (hb3.mono HB2.out.size))
      have HA3 := Lib.hid (at_below HA2.out hb3)
      have HI3 := Lib.hid hat3
      clear hown3 hat3 hb3 HB2 HA2
      go_wp2_with fail
      refine (rfind_any A c L w3 (HX.out _ HB3.out) HL3.out HC.out.1 HC.out.2).mono ?_
      unfold FindPost
      rintro r w4 ⟨v4, rfl, hown4, hb4⟩
      obtain ⟨A4, c4, rfl, _, _, hat4, _⟩ := hown4.slice
      have HB4 := Lib.hid (HB3.out.trans (hb4.mono HB3.out.size))
      have HA4 := Lib.hid (at_below HA3.out hb4)
      have HI4 := Lib.hid (at_below HI3.out hb4)
      have HJ4 := Lib.hid hat4
      clear hown4 hat4 hb4 HB3 HA3 HI3
      generalize fndB L = fb
      go_wp2_with fail
      refine (fits_any B2 B d2 d L o w4 HA4.out HOK.out HL.out (HY.out _ HB4.out) HD.out.1 HD.out.2 (by have := HLO.out; omega)).mono ?_
      rintro r w5 ⟨rfl, hb5⟩
      have HB5 := Lib.hid (HB4.out.trans (hb5.mono HB4.out.size))
      have HA5 := Lib.hid (at_below HA4.out hb5)
      have HI5 := Lib.hid (at_below HI4.out hb5)
      have HJ5 := Lib.hid (at_below HJ4.out hb5)
      clear hb5 HB4 HA4 HI4 HJ4
      go_wp2_with fail
      refine (rfits_any A B c d L o w5 (HX.out _ HB5.out) HOK.out HL3.out HC.out.1 HC.out.2 (HY.out _ HB5.out) (by have := HLO.out; omega)).mono ?_
      rintro r w6 ⟨rfl, hb6⟩
      have HB6 := Lib.hid (HB5.out.trans (hb6.mono HB5.out.size))
      have HA6 := Lib.hid (at_below HA5.out hb6)
      have HI6 := Lib.hid (at_below HI5.out hb6)
      have HJ6 := Lib.hid (at_below HJ5.out hb6)
      clear hb6 HB5 HA5 HI5 HJ5
      generalize fitB L o = ft
      have bft : (ft == ft) = true := by simp
      go_wp2_with fail
      refine (same_ints A3 A4 c3 c4 (fndO L) w6 HI6.out HJ6.out (by have := HLN.out; omega)).mono ?_
      rintro r w7 ⟨rfl, hb7⟩
      have HB7 := Lib.hid (HB6.out.trans (hb7.mono HB6.out.size))
      have HA7 := Lib.hid (at_below HA6.out hb7)
      clear hb7 HB6 HA6 HI6 HJ6
      have bfb : (fb == fb) = true := by simp
      go_wp2_with fail
      refine (opaque_any B2 d2 L w7 HA7.out HOK.out HL.out).mono ?_
      rintro r w8 ⟨rfl, hb8⟩
      have HB8 := Lib.hid (HB7.out.trans (hb8.mono HB7.out.size))
      clear hb8 HB7 HA7
      go_wp2_with fail
      refine (ropaque_any A c L w8 (HX.out _ HB8.out) HOK.out HL3.out HC.out.1 HC.out.2).mono ?_
      rintro r w9 ⟨rfl, hb9⟩
      have HB9 := Lib.hid (HB8.out.trans (hb9.mono HB8.out.size))
      clear hb9 HB8
      generalize opqB L = oq
      have boq : (oq == oq) = true := by simp
      go_wp2
      go_ret
      exact ⟨by simp, HB9.out⟩
    · have hgt : (o.length : Int) > 100 := by omega
      have hlt : ¬ (L.length : Int) > 100 := by omega
      clear hl hlo
      go_enter Tryz.func3, Tryz.ntmps3
      go_wp2_with fail
      refine (jalive_any _).mono ?_
      rintro r w1 ⟨rfl, hb1⟩
      have HB1 := Lib.hid hb1
      clear hb1
      go_wp2
      go_ret
      exact ⟨rfl, HB1.out⟩
  · have hgt : (L.length : Int) > 100 := by omega
    clear hl
    go_enter Tryz.func3, Tryz.ntmps3
    go_wp2_with fail
    refine (jalive_any _).mono ?_
    rintro r w1 ⟨rfl, hb1⟩
    have HB1 := Lib.hid hb1
    clear hb1
    go_wp2
    go_ret
    exact ⟨rfl, HB1.out⟩
end Go.Proofs.YtaonepbongbhoaaGreat.Jd
