/-
  Contracts of topo.between, standing.
-/
import Derived.Test.YtakoceablbgchaaDoorTopoRow
namespace Go.Proofs.YtakoceablbgchaaDoor
open Go.RowKit
theorem band_yes {o : Od.O} {lo hi : Int} {k : Nat} (h1 : lo ≤ o k) (h2 : o k ≤ hi) : Sm.add (Od.band o lo hi k) (k : Nat) = Od.band o lo hi (k + 1) := by
  unfold Od.band; rw [Mm.mk]; simp [h1, h2]
theorem band_no {o : Od.O} {lo hi : Int} {k : Nat} (h : ¬ (lo ≤ o k ∧ o k ≤ hi)) : Od.band o lo hi k = Od.band o lo hi (k + 1) := by
  unfold Od.band; rw [Mm.mk]
  have : (decide (lo ≤ o k) && decide (o k ≤ hi)) = false := by
    rw [Bool.and_eq_false_iff]; simp; omega
  simp [this]
theorem band_lt64 (o : Od.O) (lo hi : Int) (k : Nat) : Od.band o lo hi k < 18446744073709551616 := Mm.mk_lt _ _
set_option maxHeartbeats 1000000 in
set_option maxRecDepth 100000 in
theorem between_any (o : Od.O) (lo hi : Int) (w : World) (ho : Od.Ok o) :
    Calls Tryd.prog 65 #[.agg (ordA o), .int .i64 lo, .int .i64 hi] w fun e w' => e = .returned (.int .u64 (Od.band o lo hi 32 : Nat)) ∧ Below w.heap.size w w' := by
  have H0 := Lib.hid (ordAt_new w o 29)
  go_enter Tryd.func65, Tryd.ntmps65
  go_wp2_with (refine wpList_load_row rfl 29 (.tmp 3) rfl w.heap.size rfl 29 (ordA o) (0, 0) _ H0.out Tryd.underlying29 rfl (ordInfo o) ?_)
  go_loop [7, 11] (fun s i => ∃ k : Nat, k ≤ 32 ∧ i = .int .i64 k ∧ s = .int .u64 (Od.band o lo hi k : Nat)) (fun _ i => 32 - (intOf i).toNat)
  case atStart => exact ⟨0, Nat.zero_le _, rfl, rfl⟩
  case round =>
    obtain ⟨k, hk, rfl, rfl⟩ := hrel
    by_cases hlt : k < 32
    · have hg := index_ord o k hlt
      obtain ⟨b0, b1⟩ := ho k hlt
      have hq := band_lt64 o lo hi k
      by_cases c1 : lo ≤ o k
      · by_cases c2 : o k ≤ hi
        · have HN := Lib.hid (band_yes c1 c2)
          go_wp2_with (go_at_call 45; refine (with_val _ _ _ _ hq (by omega) HN.out).mono ?_; rintro e w' ⟨rfl, rfl⟩)
          go_round
          case rel => exact ⟨k + 1, by omega, by go_num, rfl⟩
          case measure => simp [intOf]; omega
        · have HN := Lib.hid (band_no (o := o) (lo := lo) (hi := hi) (k := k) (by omega))
          have hd : decide (o k ≤ hi) = false := by simpa using c2
          go_wp2
          go_round
          case rel => exact ⟨k + 1, by omega, by go_num, by rw [HN.out]⟩
          case measure => simp [intOf]; omega
      · have HN := Lib.hid (band_no (o := o) (lo := lo) (hi := hi) (k := k) (by omega))
        have hd : decide (lo ≤ o k) = false := by simpa using c1
        go_wp2
        go_round
        case rel => exact ⟨k + 1, by omega, by go_num, by rw [HN.out]⟩
        case measure => simp [intOf]; omega
    · obtain rfl : k = 32 := by omega
      go_wp2
      go_ret
      exact ⟨rfl, below_new _ _⟩
/- standing -/
def standTo (o : Od.O) (s k : Nat) : List Nat := ((Od.row o).take k).filter fun i => s.testBit i
theorem standTo_yes {o : Od.O} {s k : Nat} (hk : k < 32) (h : s.testBit (Od.at_ o k) = true) : standTo o s (k + 1) = standTo o s k ++ [Od.at_ o k] := by
  have hl : k < (Od.row o).length := by rw [Od.row_len]; exact hk
  have e : (Od.row o)[k] = Od.at_ o k := by
    have := Od.row_get (o := o) hk
    rw [List.getElem?_eq_getElem hl] at this
    injection this
  unfold standTo
  rw [List.take_succ_eq_append_getElem hl, List.filter_append, e]
  simp [h]
theorem standTo_no {o : Od.O} {s k : Nat} (hk : k < 32) (h : s.testBit (Od.at_ o k) = false) : standTo o s (k + 1) = standTo o s k := by
  have hl : k < (Od.row o).length := by rw [Od.row_len]; exact hk
  have e : (Od.row o)[k] = Od.at_ o k := by
    have := Od.row_get (o := o) hk
    rw [List.getElem?_eq_getElem hl] at this
    injection this
  unfold standTo
  rw [List.take_succ_eq_append_getElem hl, List.filter_append, e]
  simp [h]
theorem standTo_all (o : Od.O) (s : Nat) : standTo o s 32 = Od.standing o s := by
  unfold standTo Od.standing
  rw [List.take_of_length_le (by rw [Od.row_len]; exact Nat.le_refl _)]
theorem standTo_len (o : Od.O) (s k : Nat) : (standTo o s k).length ≤ 32 := by
  unfold standTo
  have := List.length_filter_le (fun i => s.testBit i) ((Od.row o).take k)
  have h2 : ((Od.row o).take k).length ≤ 32 := by rw [List.length_take, Od.row_len]; exact Nat.min_le_right _ _
  omega
theorem row_at (o : Od.O) {k : Nat} (hk : k < (Od.row o).length) : (Od.row o)[k] = Od.at_ o k := by
  have := Od.row_get (o := o) (p := k) (by rw [Od.row_len] at hk; exact hk)
  rw [List.getElem?_eq_getElem hk] at this
  injection this
theorem vals_snoc (l : List Nat) (k : Nat) : vals (l ++ [k]) = vals l ++ [Value.int IntKind.i64 (k : Nat)] := by simp [vals]
def StandRel (o : Od.O) (s : Nat) (w1 : World) (l i : Value) (wr : World) : Prop :=
  ∃ k : Nat, k ≤ 32 ∧ i = .int .i64 k ∧ Own wr w1.heap.size l (standTo o s k) ∧ Below w1.heap.size w1 wr
def StandPost (o : Od.O) (s : Nat) (w : World) (e : Ending) (w' : World) : Prop := ∃ v, e = .returned v ∧ Own w' w.heap.size v (Od.standing o s) ∧ Below w.heap.size w w'
set_option maxHeartbeats 1000000 in
set_option maxRecDepth 100000 in
theorem standing_any (o : Od.O) (s : Nat) (w : World) (hr : Od.Right o) (hs : s < 4294967296) : Calls Tryd.prog 79 #[.agg (ordA o), .int .u64 s] w (StandPost o s w) := by
  obtain ⟨i0, hi, hz0, hz1, hz2⟩ := info_parts int_info
  have HR := Lib.hid hr
  have H0 := Lib.hid (ordAt_new w o 29)
  have hs64 : s < 18446744073709551616 := by omega
  clear hr
  go_enter Tryd.func79, Tryd.ntmps79
  go_wp2_with (refine wpList_load_row rfl 29 (.tmp 2) rfl w.heap.size rfl 29 (ordA o) (0, 0) _ H0.out Tryd.underlying29 rfl (ordInfo o) ?_)
  refine (row_yes o _ HR.out).mono ?_
  rintro e w1 ⟨v, rfl, hown, hb1⟩
  obtain ⟨A, c, hv, hc1, hc2⟩ := hown.shape
  rw [Od.row_len] at hv hc1
  subst hv
  have HW := Lib.hid hown
  have HB1 := Lib.hid (((below_new w (.cells (ordA o) 29)).trans (hb1.mono (below_new w (.cells (ordA o) 29)).size)))
  clear hb1 hown
  go_wp2_with fail
  go_loopw [5, 11] (StandRel o s w1) (fun _ i _ => 32 - (intOf i).toNat)
  case atStart => exact ⟨0, by omega, rfl, own_nil _ _, Below.refl _ _⟩
  case round =>
    obtain ⟨k, hk, rfl, ho, hb⟩ := hrel
    have HO := Lib.hid ho
    have HBr := Lib.hid hb
    by_cases hlt : k < 32
    · have hW := HW.out.below hb (Nat.le_refl _)
      obtain ⟨g, rfl, hc⟩ := hW.at_ (k := k) (by rw [Od.row_len]; exact hlt)
      rw [row_at o] at hc
      have ha := (Od.at_spec HR.out hlt).1
      clear ho hb hW
      cases ht : s.testBit (Od.at_ o k)
      · have HT := Lib.hid ht
        have HN := Lib.hid (standTo_no hlt ht)
        clear ht
        go_wp2_with (go_at_call 23; refine (has_val _ _ _ _ hs64 (by omega) HT.out).mono ?_; rintro e w' ⟨rfl, rfl⟩)
        refine ⟨⟨k + 1, by omega, by go_num, ?_, HBr.out⟩, by simp [intOf]; omega⟩
        rw [HN.out]; exact HO.out
      · have HT := Lib.hid ht
        have HN := Lib.hid (standTo_yes hlt ht)
        have hll := standTo_len o s k
        have hsz := HBr.out.size
        clear ht
        go_wp2_with (first
          | (go_at_call 23; refine (has_val _ _ _ _ hs64 (by omega) HT.out).mono ?_; rintro e w' ⟨rfl, rfl⟩)
          | (at_builtin; refine wpList_append_own _ rfl _ _ 48 rfl w1.heap.size 3 i0 (.int .i64 0) 1 8 Tryd.underlying48 hi hz0 hz1 hz2 rfl (by decide) _ _ _ rfl (World.ownsRow.alloc HO.out _) ⟨wr.heap.size, 0, none⟩ 1 1 [.int .i64 (Od.at_ o k : Nat)] rfl rfl ?c1 ?c2 ?c3 ?c4 ?c5 ?_))
        case c1 =>
          intro j u hj
          match j, hj with
          | 0, hj => simp at hj; subst hj; simp [Addr.add]
        case c2 => intro u hu; simp at hu; subst hu; rfl
        case c3 => unfold maxLen; omega
        case c4 => omega
        case c5 => simp; omega
        intro v' w2 hown' hgrow _
        have HO' := Lib.hid hown'
        clear hown'
        go_wp2
        refine ⟨⟨k + 1, by omega, by go_num, ?_, ?_⟩, by simp [intOf]; omega⟩
        · unfold Own
          rw [HN.out, vals_snoc, List.length_append]; exact HO'.out
        · exact (HBr.out.alloc HBr.out.size _).grown hgrow (by simp; omega) (fun k hk => (World.ownsRow.lt HO.out k hk).1)
    · obtain rfl : k = 32 := by omega
      clear ho hb
      have HA := Lib.hid (standTo_all o s)
      go_wp2
      go_ret
      refine ⟨_, rfl, ?_, HB1.out.trans (HBr.out.mono HB1.out.size)⟩
      rw [← HA.out]
      exact HO.out.mono HB1.out.size
end Go.Proofs.YtakoceablbgchaaDoor
