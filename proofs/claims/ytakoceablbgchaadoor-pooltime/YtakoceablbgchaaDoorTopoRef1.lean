/-
  Contracts of the document's own answers for orders: New, at, Right, Row, within.
-/
import Derived.Test.YtakoceablbgchaaDoorTopoFrame0
import Derived.Test.YtakoceablbgchaaDoorMatRef3
namespace Go.Proofs.YtakoceablbgchaaDoor
open Go.RowKit
set_option maxHeartbeats 1000000 in
set_option maxRecDepth 100000 in
theorem rnew_any (w : World) :
    Calls Tryd.prog 30 #[] w fun e w' => e = .returned (.agg (ordA Od.newO)) ∧ Below w.heap.size w w' := by
  go_enter Tryd.func30, Tryd.ntmps30
  go_wp2
  go_loopw [2] (NewRel 36 w) (fun i _ => 32 - (intOf i).toNat)
  case atStart => exact new_first w 36
  case round =>
    obtain ⟨k, hk, rfl, h0, h1, hb⟩ := hrel
    have H0 := Lib.hid h0
    have H1 := Lib.hid h1
    by_cases hlt : k < 32
    · have hc := h1.cell k hlt
      have hf := h1.frozen k
      clear h0 h1
      go_wp2
      refine ⟨⟨k + 1, by omega, by go_num, ?_, ?_, hb.setCell (by simp) _⟩, by simp [intOf]; omega⟩
      · exact H0.out.setCell _ _ (by simp)
      · exact (ordAt_cell H1.out).ext fun i _ => newTo_step k i
    · obtain rfl : k = 32 := by omega
      clear h0 h1
      go_wp2_with (first
        | (refine wpList_load_row rfl 36 (.tmp 1) rfl (w.heap.size + 1) rfl 36 _ (0, 0) _ H1.out Tryd.underlying36 rfl (rordInfo _) ?_)
        | (refine wpList_store_row rfl 36 (.tmp 0) (.tmp 10) rfl w.heap.size _ rfl rfl 36 _ H0.out (rordInfo _) (by rw [ordA_size, ordA_size]) (ordA_one _) ?_))
      rw [ordA_ext newTo_all]
      refine bodyPost_ret (results_cell_row rfl _ _ w.heap.size 36 (ordA Od.newO) (0, 0) _ rfl (setRow_heap _ _ _ _ _ _ H0.out) Tryd.underlying36 rfl (rordInfo _)) rfl ⟨rfl, ?_⟩
      exact setRow_below hb (by omega)
/- at -/
set_option maxHeartbeats 1000000 in
set_option maxRecDepth 100000 in
theorem at_yes (o : Od.O) (p : Int) (n : Nat) (w : World) (hn : n < 32) (he : o n = p) (hl : ∀ j, j < n → o j ≠ p) :
    Calls Tryd.prog 76 #[.agg (ordA o), .int .i64 p] w fun e w' => e = .returned (.int .i64 (n : Nat)) ∧ Below w.heap.size w w' := by
  have H0 := Lib.hid (ordAt_new w o 36)
  have HL := Lib.hid hl
  have HE := Lib.hid he
  clear hl he
  go_enter Tryd.func76, Tryd.ntmps76
  go_wp2
  go_loop [5] (fun i => ∃ k : Nat, k ≤ n ∧ i = .int .i64 k) (fun i => 32 - (intOf i).toNat)
  case atStart => exact ⟨0, Nat.zero_le _, rfl⟩
  case round =>
    obtain ⟨k, hk, rfl⟩ := hrel
    have hc := H0.out.cell k (by omega)
    by_cases hlt : k < n
    · have hne : (o k == p) = false := by simpa using HL.out k hlt
      go_wp2
      go_round
      case rel => exact ⟨k + 1, by omega, by go_num⟩
      case measure => simp [intOf]; omega
    · obtain rfl : k = n := by omega
      rw [HE.out] at hc
      go_wp2
      go_ret
      exact ⟨rfl, below_new _ _⟩
set_option maxHeartbeats 1000000 in
set_option maxRecDepth 100000 in
theorem at_no (o : Od.O) (p : Int) (w : World) (hl : ∀ j, j < 32 → o j ≠ p) :
    Calls Tryd.prog 76 #[.agg (ordA o), .int .i64 p] w fun e w' => e = .returned (.int .i64 (-1)) ∧ Below w.heap.size w w' := by
  have H0 := Lib.hid (ordAt_new w o 36)
  have HL := Lib.hid hl
  clear hl
  go_enter Tryd.func76, Tryd.ntmps76
  go_wp2
  go_loop [5] (fun i => ∃ k : Nat, k ≤ 32 ∧ i = .int .i64 k) (fun i => 32 - (intOf i).toNat)
  case atStart => exact ⟨0, Nat.zero_le _, rfl⟩
  case round =>
    obtain ⟨k, hk, rfl⟩ := hrel
    by_cases hlt : k < 32
    · have hc := H0.out.cell k (by omega)
      have hne : (o k == p) = false := by simpa using HL.out k hlt
      go_wp2
      go_round
      case rel => exact ⟨k + 1, by omega, by go_num⟩
      case measure => simp [intOf]; omega
    · obtain rfl : k = 32 := by omega
      go_wp2
      go_ret
      exact ⟨rfl, below_new _ _⟩
theorem at_place (o : Od.O) (p : Nat) (w : World) (hr : Od.Right o) (hp : p < 32) :
    Calls Tryd.prog 76 #[.agg (ordA o), .int .i64 (p : Nat)] w fun e w' => e = .returned (.int .i64 (Od.at_ o p : Nat)) ∧ Below w.heap.size w w' := by
  have h := Od.at_spec hr hp
  exact at_yes o p _ w h.1 h.2 fun j hj e => by
    have := hr.inj (i := j) (by omega) h.1 (by rw [e, h.2])
    omega
theorem least_of {P : Nat → Prop} {n : Nat} (h : P n) : ∃ k, k ≤ n ∧ P k ∧ ∀ j, j < k → ¬ P j := by
  induction n using Nat.strongRecOn with
  | ind n ih =>
    by_cases hc : ∃ j, j < n ∧ P j
    · obtain ⟨j, hj, hp⟩ := hc
      obtain ⟨k, h1, h2, h3⟩ := ih j hj hp
      exact ⟨k, by omega, h2, h3⟩
    · exact ⟨n, Nat.le_refl _, h, fun j hj hp => hc ⟨j, hj, hp⟩⟩
/- Right -/
structure OSt (o : Od.O) (w wr : World) : Prop where
  od : OrdAt wr w.heap.size o 36
  bel : Below w.heap.size w wr
theorem OSt.below {o : Od.O} {w W W' : World} (h : OSt o w W) (hb : Below W.heap.size W W') : OSt o w W' := ⟨h.od.below hb, h.bel.trans (hb.mono h.bel.size)⟩
theorem ost_first (o : Od.O) (w : World) : OSt o w (w.alloc (.cells (ordA o) 36)) := ⟨ordAt_new _ _ _, below_new _ _⟩
def RRightRel (o : Od.O) (w : World) (i : Value) (wr : World) : Prop :=
  ∃ k : Nat, k ≤ 32 ∧ i = .int .i64 k ∧ (∀ p : Nat, p < k → ∃ i, i < 32 ∧ o i = (p : Int)) ∧ OSt o w wr
set_option maxHeartbeats 1000000 in
set_option maxRecDepth 100000 in
theorem rright_any (o : Od.O) (w : World) :
    Calls Tryd.prog 61 #[.agg (ordA o)] w fun e w' => e = .returned (.bool (Od.rightB o)) ∧ Below w.heap.size w w' := by
  have H0 := Lib.hid (ost_first o w)
  go_enter Tryd.func61, Tryd.ntmps61
  go_wp2
  go_loopw [3] (RRightRel o w) (fun i _ => 32 - (intOf i).toNat)
  case atStart => exact ⟨0, by omega, rfl, fun p hp => absurd hp (by omega), H0.out⟩
  case round =>
    obtain ⟨k, hk, rfl, hall, hst⟩ := hrel
    have HA := Lib.hid hall
    have HS := Lib.hid hst
    clear hall hst
    by_cases hlt : k < 32
    · by_cases hex : ∃ i, i < 32 ∧ o i = (k : Int)
      · have HX := Lib.hid hex
        obtain ⟨i, hi, he⟩ := hex
        obtain ⟨n, hn, hn2, hn3⟩ := least_of (P := fun i => o i = (k : Int)) he
        have HN2 := Lib.hid hn2
        have HN3 := Lib.hid hn3
        clear he hn2 hn3
        go_wp2_with (refine wpList_load_row rfl 36 (.tmp 1) rfl w.heap.size rfl 36 (ordA o) (0, 0) _ HS.out.od Tryd.underlying36 rfl (rordInfo o) ?_)
        refine (at_yes o _ n _ (by omega) HN2.out HN3.out).mono ?_
        rintro e w1 ⟨rfl, hb1⟩
        have HS1 := Lib.hid (HS.out.below hb1)
        clear hb1
        go_wp2
        refine ⟨⟨k + 1, by omega, by go_num, fun p hp => ?_, HS1.out⟩, by simp [intOf]; omega⟩
        by_cases e : p = k
        · subst e; exact HX.out
        · exact HA.out p (by omega)
      · have HX := Lib.hid (show ∀ j, j < 32 → o j ≠ (k : Int) from fun j hj e => hex ⟨j, hj, e⟩)
        have HF := Lib.hid (Od.rightB_no (o := o) fun h => hex (h k hlt))
        clear hex
        go_wp2_with (refine wpList_load_row rfl 36 (.tmp 1) rfl w.heap.size rfl 36 (ordA o) (0, 0) _ HS.out.od Tryd.underlying36 rfl (rordInfo o) ?_)
        refine (at_no o _ _ HX.out).mono ?_
        rintro e w1 ⟨rfl, hb1⟩
        go_wp2
        go_ret
        rw [HF.out]
        exact ⟨rfl, (HS.out.below hb1).bel⟩
    · obtain rfl : k = 32 := by omega
      have HF := Lib.hid (Od.rightB_yes (o := o) HA.out)
      go_wp2
      go_ret
      rw [HF.out]
      exact ⟨rfl, HS.out.bel⟩
theorem rright_val (o : Od.O) (b : Bool) (w : World) (h : Od.rightB o = b) :
    Calls Tryd.prog 61 #[.agg (ordA o)] w fun e w' => e = .returned (.bool b) ∧ Below w.heap.size w w' := by
  have := rright_any o w
  rw [h] at this; exact this
/- Row -/
def RRowRel (o : Od.O) (w w1 : World) (l i : Value) (wr : World) : Prop :=
  ∃ k : Nat, k ≤ 32 ∧ i = .int .i64 k ∧ Own wr w1.heap.size l ((Od.row o).take k) ∧ Below w1.heap.size w1 wr ∧ OSt o w wr
theorem row_take {o : Od.O} {k : Nat} (hk : k < 32) : (Od.row o).take (k + 1) = (Od.row o).take k ++ [Od.at_ o k] := by
  have hl : k < (Od.row o).length := by rw [Od.row_len]; exact hk
  rw [List.take_succ_eq_append_getElem hl, row_at o hl]
theorem row_take_len {o : Od.O} {k : Nat} (hk : k ≤ 32) : ((Od.row o).take k).length = k := by rw [List.length_take, Od.row_len]; omega
set_option maxHeartbeats 1000000 in
set_option maxRecDepth 100000 in
theorem rrow_yes (o : Od.O) (w : World) (hr : Od.Right o) : Calls Tryd.prog 75 #[.agg (ordA o)] w (RowPost o w) := by
  obtain ⟨i0, hi, hz0, hz1, hz2⟩ := info_parts int_info
  have HR := Lib.hid hr
  have HB := Lib.hid (Od.rightB_yes hr)
  have H0 := Lib.hid (ost_first o w)
  clear hr
  go_enter Tryd.func75, Tryd.ntmps75
  go_wp2_with (refine wpList_load_row rfl 36 (.tmp 1) rfl w.heap.size rfl 36 (ordA o) (0, 0) _ H0.out.od Tryd.underlying36 rfl (rordInfo o) ?_)
  refine (rright_val o true _ HB.out).mono ?_
  rintro e w1 ⟨rfl, hb1⟩
  have H1 := Lib.hid (H0.out.below hb1)
  clear hb1 H0
  go_wp2
  go_loopw [3, 4] (RRowRel o w w1) (fun _ i _ => 32 - (intOf i).toNat)
  case atStart => exact ⟨0, by omega, rfl, own_nil _ _, Below.refl _ _, H1.out⟩
  case round =>
    obtain ⟨k, hk, rfl, ho, hb, hst⟩ := hrel
    have HOw := Lib.hid ho
    have HBr := Lib.hid hb
    have HS := Lib.hid hst
    clear ho hb hst
    by_cases hlt : k < 32
    · have HN := Lib.hid (row_take (o := o) hlt)
      have ha := (Od.at_spec HR.out hlt).1
      go_wp2_with (refine wpList_load_row rfl 36 (.tmp 1) rfl w.heap.size rfl 36 (ordA o) (0, 0) _ HS.out.od Tryd.underlying36 rfl (rordInfo o) ?_)
      refine (at_place o k _ HR.out hlt).mono ?_
      rintro e w2 ⟨rfl, hb2⟩
      have HO2 := Lib.hid (HOw.out.below hb2 (Nat.le_refl _))
      have HB2 := Lib.hid (HBr.out.trans (hb2.mono HBr.out.size))
      have HS2 := Lib.hid (HS.out.below hb2)
      have hsz := HB2.out.size
      have hlen : ((Od.row o).take k).length ≤ 32 := by rw [row_take_len hk]; exact hk
      have hw2 : w.heap.size < w2.heap.size := HS2.out.od.lt
      clear hb2 HOw HBr HS
      go_wp2_with (at_builtin; refine wpList_append_own _ rfl _ _ 48 rfl w1.heap.size 3 i0 (.int .i64 0) 1 8 Tryd.underlying48 hi hz0 hz1 hz2 rfl (by decide) _ _ _ rfl (World.ownsRow.alloc HO2.out _) ⟨w2.heap.size, 0, none⟩ 1 1 [.int .i64 (Od.at_ o k : Nat)] rfl rfl ?c1 ?c2 ?c3 ?c4 ?c5 ?_)
      case c1 =>
        intro j u hj
        match j, hj with
        | 0, hj => simp at hj; subst hj; simp [Addr.add]
      case c2 => intro u hu; simp at hu; subst hu; rfl
      case c3 => unfold maxLen; omega
      case c4 => omega
      case c5 => simp; omega
      intro v' w3 hown' hgrow _
      have HO' := Lib.hid hown'
      have HS3 := Lib.hid (show OSt o w w3 from ⟨grown_ord (HS2.out.od.alloc _) hgrow (fun e => by
          have := (World.ownsRow.lt HO2.out _ e.symm).1
          have := H1.out.od.lt
          omega), (HS2.out.bel.alloc HS2.out.bel.size _).grown hgrow (by have := HS2.out.bel.size; simp; omega) (fun k hk => by
          have := (World.ownsRow.lt HO2.out k hk).1
          have := H1.out.od.lt
          omega)⟩)
      have HB3 := Lib.hid ((HB2.out.alloc HB2.out.size _).grown hgrow (by simp; omega) (fun k hk => (World.ownsRow.lt HO2.out k hk).1))
      clear hown' hgrow
      go_wp2
      refine ⟨⟨k + 1, by omega, by go_num, ?_, HB3.out, HS3.out⟩, by simp [intOf]; omega⟩
      have h := HO'.out
      rw [show min k (Od.row o).length = k from by rw [Od.row_len]; omega] at h
      unfold Own
      rw [HN.out, vals_snoc, List.length_append, row_take_len (by omega)]; exact h
    · obtain rfl : k = 32 := by omega
      go_wp2
      go_ret
      refine ⟨_, rfl, ?_, HS.out.bel⟩
      have h := HOw.out
      rw [List.take_of_length_le (by rw [Od.row_len]; exact Nat.le_refl _)] at h
      exact h.mono H1.out.bel.size
set_option maxHeartbeats 1000000 in
set_option maxRecDepth 100000 in
theorem rrow_no (o : Od.O) (w : World) (hr : ¬ Od.Right o) :
    Calls Tryd.prog 75 #[.agg (ordA o)] w fun e w' => e = .returned (.slice none 0 0) ∧ Below w.heap.size w w' := by
  have HB := Lib.hid (Od.rightB_no hr)
  have H0 := Lib.hid (ost_first o w)
  clear hr
  go_enter Tryd.func75, Tryd.ntmps75
  go_wp2_with (refine wpList_load_row rfl 36 (.tmp 1) rfl w.heap.size rfl 36 (ordA o) (0, 0) _ H0.out.od Tryd.underlying36 rfl (rordInfo o) ?_)
  refine (rright_val o false _ HB.out).mono ?_
  rintro e w1 ⟨rfl, hb1⟩
  go_wp2
  go_ret
  exact ⟨rfl, (H0.out.below hb1).bel⟩
end Go.Proofs.YtakoceablbgchaaDoor
