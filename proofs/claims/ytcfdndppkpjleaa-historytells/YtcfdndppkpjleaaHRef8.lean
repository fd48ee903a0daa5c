/-
  The contract of the document's Spans; rows of integers compared.
-/
import Derived.Test.YtcfdndppkpjleaaHRef4
import Derived.Deep.QuietTactic
import Derived.BigQuiet
namespace Go.Proofs.Ytcfdndppkpjleaa.Hi
open Go.RowKit
open Tx (i64p)
/-- a span as the document has it. -/
abbrev encR : Rn.Enc (Nat × Nat) where
  n := 3
  pos := by decide
  cells p := [.int .i64 (p.1 : Nat), .int .i64 (p.2 : Nat), .bool true]
  len _ := rfl
  one v u hu := by simp at hu; rcases hu with rfl | rfl | rfl <;> rfl
theorem rspan_all : (Try.prog.info? 45).map (fun i => (i.zero, i.size, i.bytes)) = some (some (.agg #[.int .i64 0, .int .i64 0, .bool false]), 3, 24) := by kernel_rfl
theorem vtR : Rn.VT encR 40 45 := by
  obtain ⟨i0, hi, hz0, hz1, hz2⟩ := info_parts rspan_all
  exact ⟨Try.underlying40, i0, _, hi, hz0, hz1, by rw [hz2]; decide, rfl⟩
def beL (l : List Cr) : List (Nat × Nat) := l.map fun c => (c.b, c.e)
theorem atI1 {w : World} {A : Option Addr} {X : List Int} (h : Rn.At encI w A X) {j : Nat} {x : Int} (hx : X[j]? = some x) : ∃ ad, A = some ad ∧ w.cell? (ad.add j) = some (.int .i64 x) := by
  obtain ⟨ad, e, hc⟩ := h.get hx
  exact ⟨ad, e, by have := hc 0 _ rfl; simpa using this⟩
theorem rof_c {b e : Nat} (h : b ≤ e) (he : e ≤ never) (w : World) : Calls Try.prog 42 #[.int .i64 (b : Nat), .int .i64 (e : Nat)] w fun r w' => r = .returned (.agg #[.int .i64 (b : Nat), .int .i64 (e : Nat), .bool true]) ∧ Below w.heap.size w w' := by
  refine (Cx.rof_any (b : Int) (e : Int) w).mono ?_
  rintro r w' ⟨rfl, rfl⟩
  unfold never at he
  refine ⟨?_, Rn.below_new _ _⟩
  unfold Cx.rv
  rw [Cx.rc_mk (by omega)]
def SrRel (w1 : World) (l : List Cr) (v i : Value) (wr : World) : Prop := ∃ k : Nat, k ≤ l.length ∧ i = .int .i64 (k : Nat) ∧ Rn.Own encR wr w1.heap.size 45 v (beL (l.take k)) ∧ Below w1.heap.size w1 wr
set_option maxRecDepth 100000 in
set_option maxHeartbeats 8000000 in
theorem spans_r (A : Option Addr) (c : Nat) (L : List Ev) (w : World) (h : Rn.At encE w A L) (hl : L.length ≤ 300) (hc : L.length ≤ c) (hcm : c ≤ maxLen) :
    Calls Try.prog 21 #[.slice A L.length c] w (RowS encR (beL (crL L)) w) := by
  have H := Lib.hid h
  have HL := Lib.hid (show L.length ≤ 2000 from by omega)
  have HIDS := Lib.hid (ids_r A c L w h hl hc hcm)
  clear h hc hcm
  cases hcs : crs L with
  | none =>
    have hL0 : crL L = [] := by unfold crL; rw [hcs]; rfl
    rw [hL0] at HIDS ⊢
    clear hcs hL0
    go_enter Try.func21, Try.ntmps21
    go_wp2_with fail
    refine HIDS.out.mono ?_
    rintro r w1 ⟨BI, di, rfl, _, _, _, hb⟩
    have HB := Lib.hid hb
    clear hb
    rw [show (idsL ([] : List Cr).length).length = 0 from rfl]
    go_wp2
    go_loopw [3, 5] (fun v i wr => v = .slice none 0 0 ∧ i = .int .i64 0 ∧ wr = w1) (fun _ _ _ => 0)
    case atStart => exact ⟨rfl, rfl, rfl⟩
    case round =>
      obtain ⟨rfl, rfl, hwr⟩ := hrel
      subst hwr
      go_wp2
      go_ret
      exact own_rows (Rn.Own.nil (E := encR) _ w.heap.size 45) HB.out
  | some l =>
    have hL0 : crL L = l := by unfold crL; rw [hcs]; rfl
    have HRW := Lib.hid (show Rw L l from ⟨(crs_some hcs).2, HL.out⟩)
    rw [hL0] at HIDS ⊢
    have hNN : (l.length : Int) ≤ 32 := by have := HRW.out.few; omega
    clear hcs hL0
    go_enter Try.func21, Try.ntmps21
    go_wp2_with fail
    refine HIDS.out.mono ?_
    rintro r w1 ⟨BI, di, rfl, _, _, hat, hb⟩
    have HI1 := Lib.hid hat
    have HB := Lib.hid hb
    have H1 := Lib.hid (H.out.below hb (Nat.le_refl _))
    clear hat hb
    rw [idsL_len]
    go_wp2
    go_loopw [3, 5] (SrRel w1 l) (fun _ i _ => l.length - (intOf i).toNat)
    case atStart => exact ⟨0, Nat.zero_le _, rfl, Rn.Own.nil _ _ _, Below.refl _ _⟩
    case round =>
      obtain ⟨k, hk, rfl, hown, hs⟩ := hrel
      have HO := Lib.hid hown
      have HS := Lib.hid hs
      clear hown hs
      by_cases hlt : k < l.length
      · obtain ⟨cr, hcr⟩ : ∃ cr, l[k]? = some cr := ⟨_, List.getElem?_eq_getElem hlt⟩
        have HCR := Lib.hid hcr
        have hlt' : (k : Int) < (l.length : Int) := by omega
        have hIK := idsL_get hlt
        obtain ⟨ai, rfl, hic⟩ := atI1 (HI1.out.below HS.out (Nat.le_refl _)) hIK
        have HA := Lib.hid (H1.out.below HS.out (Nat.le_refl _))
        have hb0 := HRW.out.tie.b k
        have hen0 := HRW.out.tie.e HRW.out.com k
        rw [hcr] at hb0 hen0
        have HB0 := Lib.hid hb0
        have hok := HRW.out.okc hcr
        have hgc := hok.gc HL.out
        have HGC := Lib.hid hgc
        have HKB := Lib.hid hlt
        have HTK := Lib.hid (show beL (l.take (k + 1)) = beL (l.take k) ++ [(cr.b, cr.e)] from by rw [Rn.step_take hcr]; unfold beL; rw [List.map_append]; rfl)
        have HTL := Lib.hid (show (beL (l.take k)).length ≤ 32 from by have := HRW.out.few; unfold beL; rw [List.length_map, List.length_take]; omega)
        have hAT := fun W => Rn.At.new (E := encR) W (cr.b, cr.e) #[.int .i64 (cr.b : Nat), .int .i64 (cr.e : Nat), .bool true] rfl 45 (g := W.heap.size) rfl
        have HAT := Lib.hid hAT
        clear hIK hb0 hok hgc hAT hcr
        by_cases hv : over cr = true
        · have hen1 : enI L ((k : Int) + 1) = (cr.e : Int) := by rw [hen0]; unfold oE; simp only; rw [if_pos hv]
          have HEN := Lib.hid hen1
          have hge : (cr.e : Int) ≥ 0 := by omega
          clear hen0 hen1 hv
          go_wp2_with fail
          refine (end_rv A c L ((k : Int) + 1) _ _ HA.out HL.out HEN.out).mono ?_
          rintro r w9 ⟨rfl, h9⟩
          subst w9
          go_wp2_with fail
          refine (end_rv A c L ((k : Int) + 1) _ _ HA.out HL.out HEN.out).mono ?_
          rintro r w9 ⟨rfl, h9⟩
          subst w9
          go_wp2_with fail
          refine (where_val A c L 0 ((k : Int) + 1) _ _ HA.out HL.out HB0.out).mono ?_
          rintro r w9 ⟨rfl, h9⟩
          subst w9
          go_wp2_with fail
          refine (rof_c HGC.out.1 HGC.out.2 _).mono ?_
          rintro r w9 ⟨rfl, hb9⟩
          have HO9 := Lib.hid (HO.out.below hb9 (Nat.le_refl _))
          have HB9 := Lib.hid (HS.out.trans (hb9.mono HS.out.size))
          clear hb9 hic
          go_wp2_with (at_builtin; refine Rn.append_row encR vtR rfl _ _ rfl rfl (HO9.out.alloc _) _ _ [(cr.b, cr.e)] rfl rfl (HAT.out _) ?c1 ?c2 ?_)
          case c1 => have := HTL.out; simp; omega
          case c2 => have := HB9.out.size; simp; omega
          intro v' w8 ho8 hb8 hs8
          have HO8 := Lib.hid (show Rn.Own encR w8 w1.heap.size 45 v' (beL (l.take (k + 1))) from by rw [HTK.out]; exact ho8)
          have HB8 := Lib.hid ((HB9.out.alloc HB9.out.size _).trans hb8)
          clear ho8 hb8 hs8
          go_wp2
          go_roundw
          case rel => exact ⟨k + 1, by have := HKB.out; omega, by go_num, HO8.out, HB8.out⟩
          case measure => simp [intOf]; have := HKB.out; omega
        · have hen1 : enI L ((k : Int) + 1) = -1 := by rw [hen0]; unfold oE; simp only; rw [if_neg hv]
          have hnv : cr.e = never := by simpa [over] using hv
          have HEN := Lib.hid hen1
          have HNV := Lib.hid hnv
          clear hen0 hen1 hv hnv
          go_wp2_with fail
          refine (end_rv A c L ((k : Int) + 1) _ _ HA.out HL.out HEN.out).mono ?_
          rintro r w9 ⟨rfl, h9⟩
          subst w9
          go_wp2_with fail
          refine (where_val A c L 0 ((k : Int) + 1) _ _ HA.out HL.out HB0.out).mono ?_
          rintro r w9 ⟨rfl, h9⟩
          subst w9
          have HROF := Lib.hid (fun W => rof_c HGC.out.1 HGC.out.2 W)
          have HE8 := Lib.hid (show ((cr.e : Nat) : Int) = 9007199254740992 from by rw [HNV.out]; rfl)
          rw [HE8.out] at HROF HAT
          go_wp2_with fail
          refine (HROF.out _).mono ?_
          rintro r w9 ⟨rfl, hb9⟩
          have HO9 := Lib.hid (HO.out.below hb9 (Nat.le_refl _))
          have HB9 := Lib.hid (HS.out.trans (hb9.mono HS.out.size))
          clear hb9 hic
          go_wp2_with (at_builtin; refine Rn.append_row encR vtR rfl _ _ rfl rfl (HO9.out.alloc _) _ _ [(cr.b, cr.e)] rfl rfl (HAT.out _) ?c1 ?c2 ?_)
          case c1 => have := HTL.out; simp; omega
          case c2 => have := HB9.out.size; simp; omega
          intro v' w8 ho8 hb8 hs8
          have HO8 := Lib.hid (show Rn.Own encR w8 w1.heap.size 45 v' (beL (l.take (k + 1))) from by rw [HTK.out]; exact ho8)
          have HB8 := Lib.hid ((HB9.out.alloc HB9.out.size _).trans hb8)
          clear ho8 hb8 hs8
          go_wp2
          go_roundw
          case rel => exact ⟨k + 1, by have := HKB.out; omega, by go_num, HO8.out, HB8.out⟩
          case measure => simp [intOf]; have := HKB.out; omega
      · have hlt' : ¬ (k : Int) < (l.length : Int) := by omega
        have ho := HO.out
        rw [List.take_of_length_le (by omega)] at ho
        have HO2 := Lib.hid ho
        clear ho
        go_wp2
        go_ret
        exact own_rows HO2.out (HB.out.trans (HS.out.mono HB.out.size))
/- rows of integers -/
def SiRel (X : List Int) (w : World) (i : Value) (wr : World) : Prop := ∃ k : Nat, k ≤ X.length ∧ i = .int .i64 (k : Nat) ∧ Below w.heap.size w wr
set_option maxHeartbeats 1000000 in
theorem same_ints (A B : Option Addr) (c d : Nat) (X : List Int) (w : World) (hA : Rn.At encI w A X) (hB : Rn.At encI w B X) (hl : X.length ≤ 300) :
    Calls Try.prog 13 #[.slice A X.length c, .slice B X.length d] w fun e w' => e = .returned (.bool true) ∧ Below w.heap.size w w' := by
  have HA := Lib.hid hA
  have HB := Lib.hid hB
  have hN : (X.length : Int) ≤ 300 := by omega
  clear hA hB
  go_enter Try.func13, Try.ntmps13
  go_wp2
  go_loopw [5] (SiRel X w) (fun i _ => X.length - (intOf i).toNat)
  case atStart => exact ⟨0, Nat.zero_le _, rfl, Below.refl _ _⟩
  case round =>
    obtain ⟨k, hk, rfl, hb⟩ := hrel
    have HW := Lib.hid hb
    clear hb
    by_cases hlt : k < X.length
    · have hx : X[k]? = some X[k] := List.getElem?_eq_getElem hlt
      generalize X[k] = x at hx
      obtain ⟨ad, rfl, c0⟩ := atI1 (HA.out.below HW.out (Nat.le_refl _)) hx
      obtain ⟨ad', rfl, d0⟩ := atI1 (HB.out.below HW.out (Nat.le_refl _)) hx
      clear hx
      have hlt' : (k : Int) < (X.length : Int) := by omega
      have h0 : (0 : Int) ≤ (k : Int) := by omega
      go_wp2
      go_quiet (fail)
      go_wp2
      go_round
      case rel => exact ⟨k + 1, by omega, by go_num, HW.out.trans (Tx.below_drewN _ _ _)⟩
      case measure => simp [intOf]; omega
    · have hlt' : ¬ (k : Int) < (X.length : Int) := by omega
      go_wp2
      go_ret
      exact ⟨rfl, HW.out⟩
end Go.Proofs.Ytcfdndppkpjleaa.Hi
