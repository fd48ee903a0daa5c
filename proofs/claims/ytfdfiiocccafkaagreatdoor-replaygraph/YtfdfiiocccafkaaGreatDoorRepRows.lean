/-
  Contracts of the functions that make rows of values out of others, of the library's Clone at values and at steps, of the comparison of values.
-/
import Derived.Test.YtfdfiiocccafkaaGreatDoorRepBase
import Derived.Test.YtfdfiiocccafkaaGreatDoorJTxn
namespace Go.Proofs.YtfdfiiocccafkaaGreatDoor.Rp
open Go.RowKit Tx
def VlRel (L : List Vp) (e : TypeId) (w : World) (v i : Value) (wr : World) : Prop := ∃ k : Nat, k ≤ L.length ∧ i = .int .i64 k ∧ Rn.Own encV wr w.heap.size e v (L.take k) ∧ Below w.heap.size w wr
set_option maxHeartbeats 1000000 in
theorem valuesV_any (A : Option Addr) (c : Nat) (L : List Vp) (w : World) (h : Rn.At encV w A L) (hl : L.length ≤ 300) :
    Calls Tryz.prog 13 #[.slice A L.length c] w (VlPost L 27 w) := by
  have H := Lib.hid h
  clear h
  have hN : (L.length : Int) ≤ 9223372036854775807 := by omega
  go_enter Tryz.func13, Tryz.ntmps13
  go_wp2
  go_loopw [3, 8] (VlRel L 27 w) (fun _ i _ => L.length - (intOf i).toNat)
  case atStart => exact ⟨0, Nat.zero_le _, rfl, Rn.Own.nil _ _ _, Below.refl _ _⟩
  case round =>
    obtain ⟨k, hk, rfl, ho, hb⟩ := hrel
    have HO := Lib.hid ho
    have HB := Lib.hid hb
    clear ho hb
    by_cases hlt : k < L.length
    · obtain ⟨v, hv⟩ : ∃ v, L[k]? = some v := ⟨_, List.getElem?_eq_getElem hlt⟩
      obtain ⟨ad, rfl, c0, c1⟩ := at2 (H.out.below HB.out (Nat.le_refl _)) hv
      have HV := Lib.hid hv
      clear hv
      have hlt' : (k : Int) < (L.length : Int) := by omega
      go_wp2_with (at_builtin; refine Rn.append_row encV vtR rfl _ _ rfl rfl ((HO.out.alloc _).alloc _) _ _ [v] rfl rfl (Rn.At.new _ v #[.int .i64 v.1, .int .i64 v.2] rfl _ (Rn.size_new _ _)) ?c1 ?c2 ?_)
      case c1 => simp; omega
      case c2 => have := HB.out.size; simp; omega
      intro v' w1 ho1 hb1 hs1
      have HO1 := Lib.hid ho1
      have HB1 := Lib.hid (((HB.out.alloc HB.out.size _).alloc (by have := HB.out.size; simp; omega) _).trans hb1)
      clear ho1 hb1
      go_wp2
      go_round
      case rel => exact ⟨k + 1, by omega, by go_num, by rw [Rn.step_take HV.out]; exact HO1.out, HB1.out⟩
      case measure => simp [intOf]; omega
    · have hlt' : ¬ (k : Int) < (L.length : Int) := by omega
      go_wp2
      go_ret
      have := HO.out
      rw [List.take_of_length_le (by omega)] at this
      exact ⟨_, rfl, this, HB.out⟩
set_option maxHeartbeats 1000000 in
theorem vclone_any (A : Option Addr) (c : Nat) (L : List Vp) (w : World) (h : Rn.At encV w A L) (hl : L.length ≤ 300) :
    Calls Tryz.prog 33 #[.slice A L.length c] w (VlPost L 71 w) := by
  have H := Lib.hid h
  clear h
  have hnil := fun W => Rn.eq_nil vtV A L.length c W
  rcases A with _ | ad
  · obtain rfl := H.out.nil_
    clear hnil
    have hnil := fun W => Rn.eq_nil vtV none 0 c W
    go_enter Tryz.func33, Tryz.ntmps33
    go_wp2
    go_ret
    exact ⟨_, rfl, Rn.Own.nil _ _ _, Below.refl _ _⟩
  · go_enter Tryz.func33, Tryz.ntmps33
    go_wp2_with (at_builtin; refine Rn.append_row encV vtV rfl _ _ rfl rfl (Rn.Own.empty w 71 rfl (Nat.le_refl _)) _ _ L rfl rfl (H.out.alloc _) ?c1 ?c2 ?_)
    case c1 => simp; omega
    case c2 => simp
    intro v' w1 ho1 hb1 hs1
    have HO1 := Lib.hid ho1
    have HB1 := Lib.hid ((below_new w (.cells #[] 71)).trans hb1)
    clear ho1 hb1
    go_wp2
    go_ret
    exact ⟨_, rfl, HO1.out, HB1.out⟩
set_option maxHeartbeats 1000000 in
theorem sclone_any (A : Option Addr) (c : Nat) (L : List Sp) (w : World) (h : VarsAt w A L) (hl : L.length ≤ 300) :
    Calls Tryz.prog 38 #[.slice A L.length c] w (RowPost L 76 w) := by
  have H := Lib.hid h
  clear h
  have hnil := fun W => eq_nil lvt A L.length c W
  rcases A with _ | ad
  · obtain rfl := H.out.nil_
    clear hnil
    have hnil := fun W => eq_nil lvt none 0 c W
    go_enter Tryz.func38, Tryz.ntmps38
    go_wp2
    go_ret
    exact ⟨_, rfl, own_nil _ _ _, Below.refl _ _⟩
  · go_enter Tryz.func38, Tryz.ntmps38
    go_wp2_with (at_builtin; refine append_vars lvt rfl _ _ rfl rfl (own_empty w 76 rfl (Nat.le_refl _)) _ _ L rfl rfl (H.out.alloc _) ?c1 ?c2 ?_)
    case c1 => simp; omega
    case c2 => simp
    intro v' w1 ho1 hb1 hs1
    have HO1 := Lib.hid ho1
    have HB1 := Lib.hid ((below_new w (.cells #[] 76)).trans hb1)
    clear ho1 hb1
    go_wp2
    go_ret
    exact ⟨_, rfl, HO1.out, HB1.out⟩
def SmRel (L : List Vp) (w : World) (i : Value) (wr : World) : Prop := ∃ k : Nat, k ≤ L.length ∧ i = .int .i64 k ∧ Below w.heap.size w wr
set_option maxHeartbeats 1000000 in
theorem vsame_yes (A B : Option Addr) (c d : Nat) (L : List Vp) (w : World) (hA : Rn.At encV w A L) (hB : Rn.At encV w B L) (hl : L.length ≤ 300) :
    Calls Tryz.prog 12 #[.slice A L.length c, .slice B L.length d] w fun e w' => e = .returned (.bool true) ∧ Below w.heap.size w w' := by
  have HA := Lib.hid hA
  have HB := Lib.hid hB
  clear hA hB
  go_enter Tryz.func12, Tryz.ntmps12
  go_wp2
  go_loopw [5] (SmRel L w) (fun i _ => L.length - (intOf i).toNat)
  case atStart => exact ⟨0, Nat.zero_le _, rfl, Below.refl _ _⟩
  case round =>
    obtain ⟨k, hk, rfl, hb⟩ := hrel
    have HW := Lib.hid hb
    clear hb
    by_cases hlt : k < L.length
    · obtain ⟨v, hv⟩ : ∃ v, L[k]? = some v := ⟨_, List.getElem?_eq_getElem hlt⟩
      obtain ⟨ad, rfl, c0, c1⟩ := at2 (HA.out.below HW.out (Nat.le_refl _)) hv
      obtain ⟨ad', rfl, d0, d1⟩ := at2 (HB.out.below HW.out (Nat.le_refl _)) hv
      clear hv
      have hlt' : (k : Int) < (L.length : Int) := by omega
      have h0 : (0 : Int) ≤ (k : Int) := by omega
      go_wp2
      go_quiet (fail)
      go_wp2
      go_round
      case rel => exact ⟨k + 1, by omega, by go_num, HW.out.trans (Tx.below_drewN _ _ _)⟩
      case measure => simp [intOf]; omega
    · go_wp2
      go_ret
      exact ⟨rfl, HW.out⟩
end Go.Proofs.YtfdfiiocccafkaaGreatDoor.Rp
