/-
  Contracts of the functions that make rows of variables out of others: the statements' two, the document's with, the library's Clone.
-/
import Derived.Test.YtgbfdfkodocdiaaStoreBase
namespace Go.Proofs.Ytgbfdfkodocdiaa
open Go.RowKit St
def RowRel (L : List Vr) (e : TypeId) (w : World) (v i : Value) (wr : World) : Prop := ∃ k : Nat, k ≤ L.length ∧ i = .int .i64 k ∧ OwnVars wr w.heap.size e v (L.take k) ∧ Below w.heap.size w wr
/-- a row of the call's own, and nothing that was there is changed. -/
def RowPost (L : List Vr) (e : TypeId) (w : World) (x : Ending) (w' : World) : Prop := ∃ v, x = .returned v ∧ OwnVars w' w.heap.size e v L ∧ Below w.heap.size w w'
set_option maxHeartbeats 1000000 in
theorem theirs_any (A : Option Addr) (c : Nat) (L : List Vr) (w : World) (h : VarsAt w A L) (hl : L.length ≤ 100) :
    Calls Try.prog 10 #[.slice A L.length c] w (RowPost L 35 w) := by
  have H := Lib.hid h
  clear h
  have hN : (L.length : Int) ≤ 9223372036854775807 := by omega
  go_enter Try.func10, Try.ntmps10
  go_wp2
  go_loopw [3, 8] (RowRel L 35 w) (fun _ i _ => L.length - (intOf i).toNat)
  case atStart => exact ⟨0, Nat.zero_le _, rfl, own_nil _ _ _, Below.refl _ _⟩
  case round =>
    obtain ⟨k, hk, rfl, ho, hb⟩ := hrel
    have HO := Lib.hid ho
    have HB := Lib.hid hb
    clear ho hb
    by_cases hlt : k < L.length
    · obtain ⟨ad, v, rfl, hv, hok, h5⟩ := (H.out.below HB.out (Nat.le_refl _)).at_ hlt
      obtain ⟨c0, c1, c2, c3, c4⟩ := h5
      have HV := Lib.hid hv
      have HK := Lib.hid hok
      clear hv hok
      have hlt' : (k : Int) < (L.length : Int) := by omega
      go_wp2_with (at_builtin; refine append_vars vt rfl _ _ rfl rfl ((HO.out.alloc _).alloc _) _ _ [v] rfl rfl (new_vars' (size_new _ _) v _ HK.out) ?c1 ?c2 ?_)
      case c1 => simp; omega
      case c2 => have := HB.out.size; simp; omega
      intro v' w1 ho1 hb1 hs1
      have HO1 := Lib.hid ho1
      have HB1 := Lib.hid (((HB.out.alloc HB.out.size _).alloc (by have := HB.out.size; simp; omega) _).trans hb1)
      clear ho1 hb1
      go_wp2
      go_round
      case rel => exact ⟨k + 1, by omega, by go_num, by rw [take_step HV.out]; exact HO1.out, HB1.out⟩
      case measure => simp [intOf]; omega
    · have hlt' : ¬ (k : Int) < (L.length : Int) := by omega
      go_wp2
      go_ret
      have := HO.out
      rw [List.take_of_length_le (by omega)] at this
      exact ⟨_, rfl, this, HB.out⟩
set_option maxHeartbeats 1000000 in
theorem ours_any (A : Option Addr) (c : Nat) (L : List Vr) (w : World) (h : VarsAt w A L) (hl : L.length ≤ 100) :
    Calls Try.prog 21 #[.slice A L.length c] w (RowPost L 40 w) := by
  have H := Lib.hid h
  clear h
  have hN : (L.length : Int) ≤ 9223372036854775807 := by omega
  go_enter Try.func21, Try.ntmps21
  go_wp2
  go_loopw [3, 8] (RowRel L 40 w) (fun _ i _ => L.length - (intOf i).toNat)
  case atStart => exact ⟨0, Nat.zero_le _, rfl, own_nil _ _ _, Below.refl _ _⟩
  case round =>
    obtain ⟨k, hk, rfl, ho, hb⟩ := hrel
    have HO := Lib.hid ho
    have HB := Lib.hid hb
    clear ho hb
    by_cases hlt : k < L.length
    · obtain ⟨ad, v, rfl, hv, hok, h5⟩ := (H.out.below HB.out (Nat.le_refl _)).at_ hlt
      obtain ⟨c0, c1, c2, c3, c4⟩ := h5
      have HV := Lib.hid hv
      have HK := Lib.hid hok
      clear hv hok
      have hlt' : (k : Int) < (L.length : Int) := by omega
      go_wp2_with (at_builtin; refine append_vars rvt rfl _ _ rfl rfl ((HO.out.alloc _).alloc _) _ _ [v] rfl rfl (new_vars' (size_new _ _) v _ HK.out) ?c1 ?c2 ?_)
      case c1 => simp; omega
      case c2 => have := HB.out.size; simp; omega
      intro v' w1 ho1 hb1 hs1
      have HO1 := Lib.hid ho1
      have HB1 := Lib.hid (((HB.out.alloc HB.out.size _).alloc (by have := HB.out.size; simp; omega) _).trans hb1)
      clear ho1 hb1
      go_wp2
      go_round
      case rel => exact ⟨k + 1, by omega, by go_num, by rw [take_step HV.out]; exact HO1.out, HB1.out⟩
      case measure => simp [intOf]; omega
    · have hlt' : ¬ (k : Int) < (L.length : Int) := by omega
      go_wp2
      go_ret
      have := HO.out
      rw [List.take_of_length_le (by omega)] at this
      exact ⟨_, rfl, this, HB.out⟩
set_option maxHeartbeats 1000000 in
theorem clone_any (A : Option Addr) (c : Nat) (L : List Vr) (w : World) (h : VarsAt w A L) (hl : L.length ≤ 100) :
    Calls Try.prog 29 #[.slice A L.length c] w (RowPost L 35 w) := by
  have H := Lib.hid h
  clear h
  have hnil := fun W => eq_nil vt A L.length c W
  rcases A with _ | ad
  · obtain rfl := H.out.nil_
    clear hnil
    have hnil := fun W => eq_nil vt none 0 c W
    go_enter Try.func29, Try.ntmps29
    go_wp2
    go_ret
    exact ⟨_, rfl, own_nil _ _ _, Below.refl _ _⟩
  · go_enter Try.func29, Try.ntmps29
    go_wp2_with (at_builtin; refine append_vars vt rfl _ _ rfl rfl (own_empty w 35 rfl (Nat.le_refl _)) _ _ L rfl rfl (H.out.alloc _) ?c1 ?c2 ?_)
    case c1 => simp; omega
    case c2 => simp
    intro v' w1 ho1 hb1 hs1
    have HO1 := Lib.hid ho1
    have HB1 := Lib.hid ((below_new w (.cells #[] 35)).trans hb1)
    clear ho1 hb1
    go_wp2
    go_ret
    exact ⟨_, rfl, HO1.out, HB1.out⟩
set_option maxHeartbeats 1000000 in
theorem with_row (A : Option Addr) (c x : Nat) (L : List Vr) (v : Vr) (w : World) (h : VarsAt w A L) (hl : L.length ≤ 100) (hc : L.length ≤ c) (hm : c ≤ maxLen) (hx : x < L.length) (hv : v.ok) :
    Calls Try.prog 31 #[.slice A L.length c, .int .i64 (x : Nat), .agg (varA v)] w (RowPost (L.set x v) 40 w) := by
  have H := Lib.hid h
  have HV := Lib.hid hv
  clear h hv
  unfold maxLen at hm
  obtain ⟨ad, rfl⟩ : ∃ ad, A = some ad := by obtain ⟨ad, e, _⟩ := H.out.cell (by omega); exact ⟨ad, e⟩
  have HB0 := Lib.hid (below_new w (.cells (varA v) 40))
  have HX := Lib.hid (varAt_new w v 40)
  unfold varA at *
  go_enter Try.func31, Try.ntmps31
  go_wp2_with (at_builtin; refine append_vars rvt rfl _ _ rfl rfl (own_empty _ 40 (size_new _ _) (Nat.le_refl _)) _ _ (L.take x) (by simp; omega) rfl (((H.out.take x).alloc _).alloc _) ?c1 ?c2 ?_)
  case c1 => simp; omega
  case c2 => simp
  intro v' w1 ho1 hb1 hs1
  have HO1 := Lib.hid ho1
  have HB1 := Lib.hid ((((Below.refl (w.heap.size + 1) _).alloc (by rw [size_new]; exact Nat.le_refl _) _).trans hb1))
  have HX1 := HX.out.below HB1.out (by simp)
  have c0 := HX1.c0
  have c1 := HX1.c1
  have c2 := HX1.c2
  have c3 := HX1.c3
  have c4 := HX1.c4
  clear ho1 hb1 HX1
  try rw [size_new] at hs1
  try rw [size_new] at hs1
  go_wp2_with (at_builtin; refine append_vars rvt rfl _ _ rfl rfl (HO1.out.alloc _) _ _ [v] rfl rfl (new_vars w1 v _ HV.out) ?c1 ?c2 ?_)
  case c1 => simp; omega
  case c2 => simp; omega
  intro v2 w2 ho2 hb2 hs2
  have HO2 := Lib.hid ho2
  have HB2 := Lib.hid (HB1.out.trans (((Below.refl _ _).alloc (by omega) _).trans hb2))
  clear ho2 hb2
  try rw [size_new] at hs2
  have HBW := Lib.hid (HB0.out.trans (HB2.out.mono (Nat.le_succ _)))
  have HE := Lib.hid (List.set_eq_take_append_cons_drop (l := L) (i := x) (a := v))
  have HL := Lib.hid hl
  by_cases hcx : c = x + 1
  · have h0 : L.drop (x + 1) = [] := List.drop_of_length_le (by omega)
    have H0 := Lib.hid h0
    clear h0
    have hlen : L.length - (x + 1) = 0 := by omega
    go_wp2_with (at_builtin; refine append_vars rvt rfl _ _ rfl rfl HO2.out _ _ [] (by simp) rfl (VarsAt.none_ _ _) ?c1 ?c2 ?_)
    case c1 => simp; omega
    case c2 => omega
    intro v3 w3 ho3 hb3 hs3
    have HO3 := Lib.hid ho3
    have HB3 := Lib.hid (HBW.out.trans (hb3.mono (Nat.le_succ _)))
    clear ho3 hb3
    go_wp2
    go_ret
    refine ⟨_, rfl, ?_, HB3.out⟩
    rw [HE.out, if_pos hx, H0.out]
    have := HO3.out.mono (Nat.le_succ w.heap.size)
    simpa using this
  · go_wp2_with (at_builtin; refine append_vars rvt rfl _ _ rfl rfl HO2.out _ _ (L.drop (x + 1)) (by simp) rfl ((H.out.drop (x + 1)).below HBW.out (Nat.le_refl _)) ?c1 ?c2 ?_)
    case c1 => simp; omega
    case c2 => omega
    intro v3 w3 ho3 hb3 hs3
    have HO3 := Lib.hid ho3
    have HB3 := Lib.hid (HBW.out.trans (hb3.mono (Nat.le_succ _)))
    clear ho3 hb3
    go_wp2
    go_ret
    refine ⟨_, rfl, ?_, HB3.out⟩
    rw [HE.out, if_pos hx]
    have := HO3.out.mono (Nat.le_succ w.heap.size)
    simpa using this
end Go.Proofs.Ytgbfdfkodocdiaa
