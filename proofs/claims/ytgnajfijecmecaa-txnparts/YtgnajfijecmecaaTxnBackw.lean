/-
  The contract of txn.Back.
-/
import Derived.Test.YtgnajfijecmecaaTxnGrow
namespace Go.Proofs.Ytgnajfijecmecaa.Tx
open Go.RowKit
def keep (L : List Sp) (k j : Nat) : List Sp := L.take k ++ ((L.drop k).take j).filter (fun s => !s.wr)
theorem keep_zero (L : List Sp) (k : Nat) : keep L k 0 = L.take k := by simp [keep]
theorem keep_all {L : List Sp} {k j : Nat} (h : L.length - k ≤ j) : keep L k j = backL L k := by
  unfold keep backL; rw [List.take_of_length_le (l := L.drop k) (by simp; omega)]
theorem keep_yes {L : List Sp} {k j : Nat} {s : Sp} (h : (L.drop k)[j]? = some s) (hw : s.wr = false) : keep L k (j + 1) = keep L k j ++ [s] := by
  unfold keep; rw [take_step h, List.filter_append, List.append_assoc]; simp [hw]
theorem keep_no {L : List Sp} {k j : Nat} {s : Sp} (h : (L.drop k)[j]? = some s) (hw : s.wr = true) : keep L k (j + 1) = keep L k j := by
  unfold keep; rw [take_step h, List.filter_append]; simp [hw]
theorem keep_len (L : List Sp) (k j : Nat) : (keep L k j).length ≤ L.length := by
  unfold keep
  have h1 := List.length_filter_le (fun s : Sp => !s.wr) ((L.drop k).take j)
  simp at h1 ⊢
  omega
def BackRel (L : List Sp) (k : Nat) (w : World) (v i : Value) (wr : World) : Prop := ∃ j : Nat, j ≤ L.length - k ∧ i = .int .i64 j ∧ OwnVars wr w.heap.size 39 v (keep L k j) ∧ Below w.heap.size w wr
theorem VarsAt.takeA {w : World} {A : Option Addr} {L : List Sp} (h : VarsAt w A L) (x : Nat) : VarsAt w A (L.take x) := by
  rcases A with _ | ad
  · obtain rfl := h.nil_
    simpa using h
  · exact h.take x
theorem clone_row (A : Option Addr) (c m : Nat) (L : List Sp) (w : World) (h : VarsAt w A L) (hl : L.length ≤ 300) (hm : L.length = m) :
    Calls Try.prog 20 #[.slice A m c] w (RowPost L 39 w) := by
  subst hm; exact clone_any A c L w h hl
set_option maxHeartbeats 2000000 in
set_option maxRecDepth 100000 in
theorem back_yes (A : Option Addr) (c k : Nat) (L : List Sp) (w : World) (h : VarsAt w A L) (hc : L.length ≤ c) (hm : c ≤ maxLen) (hl : L.length ≤ 300) (hk : k ≤ L.length) :
    Calls Try.prog 12 #[.slice A L.length c, .int .i64 (k : Nat)] w (AddPost (backL L k) 0 w) := by
  have H := Lib.hid h
  have HC := Lib.hid hc
  have HL := Lib.hid hl
  have HK := Lib.hid hk
  unfold maxLen at hm
  clear h
  have hk0 : ¬ (k : Int) < 0 := by omega
  have hk1 : ¬ (k : Int) > (L.length : Int) := by omega
  have hk2 : (k : Int) ≤ (c : Int) := by omega
  rcases A with _ | ad
  · obtain rfl := H.out.nil_
    obtain rfl : k = 0 := by simpa using hk
    go_enter Try.func12, Try.ntmps12
    go_wp2_with fail
    refine (clone_row _ _ 0 [] _ H.out (by simp) rfl).mono ?_
    rintro e w1 ⟨v, rfl, ho, hb⟩
    have HO := Lib.hid ho
    have HB := Lib.hid hb
    clear ho hb
    go_wp2
    go_loopw [6, 27] (BackRel [] 0 w) (fun _ i _ => 0 - (intOf i).toNat)
    case atStart => exact ⟨0, Nat.zero_le _, rfl, by rw [keep_zero]; exact HO.out, HB.out⟩
    case round =>
      obtain ⟨j, hj, rfl, ho, hb⟩ := hrel
      obtain rfl : j = 0 := by simpa using hj
      have HO := Lib.hid ho
      have HB := Lib.hid hb
      clear ho hb
      go_wp2
      have ho := HO.out
      rw [keep_all (by simp)] at ho
      obtain ⟨T, d, rfl, hv⟩ := ho.sl
      go_ret2
      exact ⟨_, _, rfl, hv, HB.out⟩
  · have HT := Lib.hid (H.out.take k)
    have HTL := Lib.hid (show (L.take k).length = k by simp; omega)
    by_cases hck : c = k
    · have h0 : L.drop k = [] := List.drop_of_length_le (by omega)
      have hlk : L.length = k := by omega
      have hlen : L.length - k = 0 := by omega
      have hlen' : (L.length : Int) - (k : Int) = 0 := by omega
      subst hck
      rw [hlk] at hk1 ⊢
      go_enter Try.func12, Try.ntmps12
      go_wp2_with fail
      refine (clone_row _ _ _ (L.take c) _ HT.out (by have := HL.out; simp; omega) HTL.out).mono ?_
      rintro e w1 ⟨v, rfl, ho, hb⟩
      have HO := Lib.hid ho
      have HB := Lib.hid hb
      clear ho hb
      go_wp2
      go_loopw [6, 27] (BackRel L c w) (fun _ i _ => 0 - (intOf i).toNat)
      case atStart => exact ⟨0, Nat.zero_le _, rfl, by rw [keep_zero]; exact HO.out, HB.out⟩
      case round =>
        obtain ⟨j, hj, rfl, ho, hb⟩ := hrel
        obtain rfl : j = 0 := by omega
        have HO := Lib.hid ho
        have HB := Lib.hid hb
        clear ho hb
        go_wp2
        have ho := HO.out
        rw [keep_all (by omega)] at ho
        obtain ⟨T, d, rfl, hv⟩ := ho.sl
        go_ret2
        exact ⟨_, _, rfl, hv, HB.out⟩
    · have HD := Lib.hid (H.out.drop k)
      have hlt : (k : Int) < (c : Int) := by omega
      go_enter Try.func12, Try.ntmps12
      go_wp2_with fail
      refine (clone_row _ _ _ (L.take k) _ HT.out (by have := HL.out; simp; omega) HTL.out).mono ?_
      rintro e w1 ⟨v, rfl, ho, hb⟩
      have HO := Lib.hid ho
      have HB := Lib.hid hb
      clear ho hb
      go_wp2
      generalize ad.add (k * 4) = ad2 at HD ⊢
      go_loopw [6, 27] (BackRel L k w) (fun _ i _ => L.length - k - (intOf i).toNat)
      case atStart => exact ⟨0, Nat.zero_le _, rfl, by rw [keep_zero]; exact HO.out, HB.out⟩
      case round =>
        obtain ⟨j, hj, rfl, ho, hb⟩ := hrel
        have HO := Lib.hid ho
        have HB := Lib.hid hb
        clear ho hb
        by_cases hlt2 : j < L.length - k
        · obtain ⟨ad3, z, e3, hv, hok, h4⟩ := (HD.out.below HB.out (Nat.le_refl _)).at_ (j := j) (by simp; omega)
          obtain ⟨c0, c1, c2, c3⟩ := h4
          cases e3
          have HV := Lib.hid hv
          have HOK := Lib.hid hok
          clear hv hok
          have hlt' : (j : Int) < ((L.length - k : Nat) : Int) := by omega
          have HX := Lib.hid (stepAt_new wr z 39)
          have d0 := HX.out.c0
          have d1 := HX.out.c1
          have d2 := HX.out.c2
          have d3 := HX.out.c3
          unfold stepA at d0 d1 d2 d3
          cases hw : z.wr with
          | false =>
            have HW := Lib.hid hw
            rw [hw] at c3 d0 d1 d2 d3
            have HN := Lib.hid (new_vars' (w := wr.alloc (.cells (stepA z) 39)) (size_new _ _) z 39 HOK.out)
            unfold stepA at HN
            rw [hw] at HN
            clear hw
            go_wp2_with (at_builtin; refine append_vars vt rfl _ _ rfl rfl ((HO.out.alloc _).alloc _) _ _ [z] rfl rfl HN.out ?c1 ?c2 ?_)
            case c1 => have := keep_len L k j; simp; omega
            case c2 => have := HB.out.size; simp; omega
            intro v' w2 ho2 hb2 hs2
            have HO2 := Lib.hid ho2
            have HB2 := Lib.hid (((HB.out.alloc HB.out.size _).alloc (by have := HB.out.size; simp; omega) _).trans hb2)
            clear ho2 hb2
            go_wp2
            go_round
            case rel => exact ⟨j + 1, by omega, by go_num, by rw [keep_yes HV.out HW.out]; exact HO2.out, HB2.out⟩
            case measure => simp [intOf]; omega
          | true =>
            have HW := Lib.hid hw
            rw [hw] at c3 d0 d1 d2 d3
            clear hw
            go_wp2
            go_round
            case rel => exact ⟨j + 1, by omega, by go_num, by rw [keep_no HV.out HW.out]; exact HO.out.alloc _, HB.out.alloc HB.out.size _⟩
            case measure => simp [intOf]; omega
        · have hlt' : ¬ (j : Int) < ((L.length - k : Nat) : Int) := by omega
          go_wp2
          have ho := HO.out
          rw [keep_all (by omega)] at ho
          obtain ⟨T, d, rfl, hv⟩ := ho.sl
          go_ret2
          exact ⟨_, _, rfl, hv, HB.out⟩
set_option maxHeartbeats 1000000 in
theorem back_no (A : Option Addr) (c : Nat) (L : List Sp) (to : Int) (w : World) (h : VarsAt w A L) (hl : L.length ≤ 300) (ht : ¬ (0 ≤ to ∧ to ≤ (L.length : Int))) :
    Calls Try.prog 12 #[.slice A L.length c, .int .i64 to] w (AddPost L 2 w) := by
  have H := Lib.hid h
  have HL := Lib.hid hl
  clear h hl
  by_cases h0 : to < 0
  · go_enter Try.func12, Try.ntmps12
    go_wp2_with fail
    refine (clone_slice _ _ _ _ H.out HL.out).mono ?_
    rintro e w1 ⟨T, d, rfl, hv, hb⟩
    have HV := Lib.hid hv
    have HB := Lib.hid hb
    clear hv hb
    go_wp2
    go_ret2
    exact ⟨_, _, rfl, HV.out, HB.out⟩
  · have h1 : to > (L.length : Int) := by omega
    clear ht
    go_enter Try.func12, Try.ntmps12
    go_wp2_with fail
    refine (clone_slice _ _ _ _ H.out HL.out).mono ?_
    rintro e w1 ⟨T, d, rfl, hv, hb⟩
    have HV := Lib.hid hv
    have HB := Lib.hid hb
    clear hv hb
    go_wp2
    go_ret2
    exact ⟨_, _, rfl, HV.out, HB.out⟩
end Go.Proofs.Ytgnajfijecmecaa.Tx
