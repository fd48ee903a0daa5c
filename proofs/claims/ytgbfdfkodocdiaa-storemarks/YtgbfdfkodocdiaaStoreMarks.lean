/-
  The walk of StoreMarks.
-/
import Derived.Test.YtgbfdfkodocdiaaStoreLaw
namespace Go.Proofs.Ytgbfdfkodocdiaa
open Go.RowKit St
/-- a slice reads as these bytes. -/
def BytesAt (w : World) (A : Option Addr) (n : Nat) (l : Nat → Nat) : Prop := 0 < n → ∃ ad, A = some ad ∧ ∀ i, i < n → w.cell? (ad.add i) = some (.int .u8 (l i : Nat)) ∧ l i < 256
theorem BytesAt.at_ {w w' : World} {A : Option Addr} {n : Nat} {l : Nat → Nat} (h : BytesAt w A n l) (hb : Below w.heap.size w w') {i : Nat} (hi : i < n) : ∃ ad, A = some ad ∧ w'.cell? (ad.add i) = some (.int .u8 (l i : Nat)) ∧ l i < 256 := by
  obtain ⟨ad, e, hc⟩ := h (by omega)
  obtain ⟨h1, h2⟩ := hc i hi
  exact ⟨ad, e, (hb.cell (cell_lt h1)).trans h1, h2⟩
theorem u8_slot (s : Nat) : ∃ r : Nat, ((s : Nat) : Int).tmod 32 = (r : Int) ∧ r < 32 := ⟨s % 32, by rw [Int.tmod_eq_emod_of_nonneg (by omega)]; omega, Nat.mod_lt _ (by decide)⟩
/-- a store whose first variable is v. -/
structure MarkSt (T : Option Addr) (N : Nat) (M : List Vr) (v : Vr) (w W : World) : Prop where
  at_ : VarsAt W T M
  len : M.length = N
  hd : M[0]? = some v
  bel : Below w.heap.size w W
def MarkRel (N n : Nat) (w : World) (t m i : Value) (wr : World) : Prop := ∃ (k : Nat) (T : Option Addr) (d : Nat) (M : List Vr) (v : Vr), k ≤ n ∧ i = .int .i64 k ∧ t = .slice T N d ∧ m = .int .u64 (v.m : Nat) ∧ MarkSt T N M v w wr
theorem mark_first (A : Option Addr) (c N : Nat) (L : List Vr) (v : Vr) (r : Nat) (w : World) (h : VarsAt w A L) (hN : L.length = N) (hl : N ≤ 100) (hv : L[0]? = some v) (hr : r < 32) :
    Calls Try.prog 15 #[.slice A N c, .int .i64 0, .int .i64 (r : Nat)] w fun e w' => ∃ T d, e = .returned (.tuple #[.slice T N d, .int .i64 0]) ∧ VarsAt w' T (L.set 0 (mk (r : Nat) v)) ∧ Below w.heap.size w w' := by
  subst hN
  refine Calls.mono (mark_yes A c 0 L (r : Nat) v w h hl hv ⟨by omega, by omega⟩) ?_
  rintro e w' ⟨T, d, rfl, h1, h2⟩
  exact ⟨T, d, by rw [List.length_set], h1, h2⟩
theorem put_first (A : Option Addr) (c N : Nat) (L : List Vr) (w : World) (h : VarsAt w A L) (hN : L.length = N) (hl : N ≤ 100) (h0 : 0 < N) :
    Calls Try.prog 13 #[.slice A N c, .int .i64 0, .agg #[.int .i64 1, .int .i64 0], .int .i64 1, .int .i64 (-1)] w fun e w' => ∃ T d, e = .returned (.tuple #[.slice T N d, .int .i64 0]) ∧ VarsAt w' T (L.set 0 ⟨1, 0, 1, -1, 0⟩) ∧ Below w.heap.size w w' := by
  subst hN
  refine Calls.mono (put_nobody A c 0 L 1 0 1 w h hl h0 rfl ⟨by decide, by decide⟩ ⟨by decide, by decide⟩ ⟨by decide, by decide⟩) ?_
  rintro e w' ⟨T, d, rfl, h1, h2⟩
  exact ⟨T, d, by rw [List.length_set], h1, h2⟩
theorem first_mark {w : World} {T : Option Addr} {M : List Vr} {v : Vr} (h : VarsAt w T M) (hv : M[0]? = some v) : ∃ ad, T = some ad ∧ w.cell? ⟨ad.block, ad.off + 4, none⟩ = some (.int .u64 (v.m : Nat)) := by
  obtain ⟨ad, v', e, hv', _, h5⟩ := h.at_ (List.getElem?_eq_some_iff.1 hv).1
  obtain rfl : v = v' := Option.some.inj (hv.symm.trans hv')
  have := h5.c4
  rw [Nat.zero_mul] at this
  have e0 : (ad.add 0).block = ad.block ∧ (ad.add 0).off = ad.off := by unfold Addr.add; split <;> simp_all
  rw [e0.1, e0.2] at this
  exact ⟨ad, e, this⟩
set_option maxHeartbeats 4000000 in
set_option maxRecDepth 100000 in
theorem storeMarks_walk (A : Option Addr) (N c : Nat) (L : List Vr) (A2 : Option Addr) (n c2 : Nat) (l : Nat → Nat) (w : World) (hL : StoreArg w A N c L) (hS : BytesAt w A2 n l) (hn : n ≤ 9223372036854775807) :
    Calls Try.prog 7 #[.slice A N c, .slice A2 n c2] w fun e w' => e = .returned (.bool true) ∧ Below w.heap.size w w' := by
  obtain ⟨rfl, hc, hm, hA⟩ := hL
  have HA := Lib.hid hA
  have HS := Lib.hid hS
  have hN : (L.length : Int) ≤ 9223372036854775807 := by unfold maxLen at hm; omega
  clear hA hS hm hc
  go_enter Try.func7, Try.ntmps7
  go_wp2_with fail
  refine (alive_any _).mono ?_
  rintro e w1 ⟨rfl, hb1⟩
  have B1 := Lib.hid hb1
  clear hb1
  by_cases hb0 : 100 < L.length
  · have hd : decide ((100 : Int) < (L.length : Int)) = true := by simp; omega
    go_wp2
    go_ret
    exact ⟨rfl, B1.out⟩
  have hd0 : decide ((100 : Int) < (L.length : Int)) = false := by simp; omega
  by_cases hb2 : 100 < n
  · have hd : decide ((100 : Int) < (n : Int)) = true := by simp; omega
    go_wp2
    go_ret
    exact ⟨rfl, B1.out⟩
  have hd1 : decide ((100 : Int) < (n : Int)) = false := by simp; omega
  by_cases hb3 : L.length = 0
  · go_wp2
    go_ret
    exact ⟨rfl, B1.out⟩
  have hb3' : ((L.length : Int) == 0) = false := by simp; exact fun h => hb3 (by simp [h])
  have hl : L.length ≤ 100 := by omega
  go_wp2_with fail
  refine (theirs_slice _ _ _ _ (HA.out.below B1.out (Nat.le_refl _)) hl).mono ?_
  rintro e w2 ⟨T, d, rfl, ht, hb2⟩
  have h00 : 0 < L.length := by omega
  have hv := List.getElem?_eq_getElem h00
  generalize L[0] = v at hv
  have S2 := Lib.hid (show MarkSt T L.length L v w w2 from ⟨ht, rfl, hv, B1.out.trans (hb2.mono B1.out.size)⟩)
  obtain ⟨ad, rfl, c4⟩ := first_mark ht hv
  clear ht hb2 hv
  go_wp2
  go_loopw [5, 6, 36] (MarkRel L.length n w) (fun _ _ i _ => n - (intOf i).toNat)
  case atStart => exact ⟨0, _, _, L, v, Nat.zero_le _, rfl, rfl, rfl, S2.out⟩
  case round =>
    obtain ⟨k, T3, d3, M, v3, hk, rfl, rfl, rfl, hst⟩ := hrel
    have S := Lib.hid hst
    clear hst
    by_cases hlt : k < n
    · obtain ⟨ad2, rfl, cb, hby⟩ := HS.out.at_ S.out.bel hlt
      obtain ⟨r, hr, hr32⟩ := u8_slot (l k)
      generalize l k = y at *
      have hlt' : (k : Int) < (n : Int) := by omega
      have hm := (S.out.at_.ok _ (List.mem_of_getElem? S.out.hd)).2.2.2.2
      go_wp2_with fail
      refine (mark_first _ _ _ _ _ r _ S.out.at_ S.out.len hl S.out.hd hr32).mono ?_
      rintro e w5 ⟨T5, d5, rfl, h5, hb5⟩
      have hM0 : 0 < M.length := (List.getElem?_eq_some_iff.1 S.out.hd).1
      have S5 := Lib.hid (show MarkSt T5 L.length (M.set 0 (mk (r : Nat) v3)) (mk (r : Nat) v3) w w5 from ⟨h5, by rw [List.length_set]; exact S.out.len, List.getElem?_set_self hM0, S.out.bel.trans (hb5.mono S.out.bel.size)⟩)
      obtain ⟨ad5, rfl, c5⟩ := first_mark S5.out.at_ S5.out.hd
      have c5' : w5.cell? ⟨ad5.block, ad5.off + 4, none⟩ = some (.int .u64 (Sm.add v3.m (r : Nat) : Nat)) := c5
      clear h5 hb5 c5
      go_wp2_with fail
      refine (with_any _ _ _ hm (by omega) (by omega)).mono ?_
      rintro e w' ⟨rfl, rfl⟩
      go_wp2
      go_round
      case rel => exact ⟨k + 1, _, _, _, _, by omega, by go_num, rfl, rfl, S5.out⟩
      case measure => simp [intOf]; omega
    · have hlt' : ¬ (k : Int) < (n : Int) := by omega
      go_wp2_with fail
      refine (put_first _ _ _ _ _ S.out.at_ S.out.len hl h00).mono ?_
      rintro e w5 ⟨T5, d5, rfl, h5, hb5⟩
      have hM0 : 0 < M.length := (List.getElem?_eq_some_iff.1 S.out.hd).1
      obtain ⟨ad5, rfl, c5⟩ := first_mark h5 (List.getElem?_set_self hM0)
      have c5' : w5.cell? ⟨ad5.block, ad5.off + 4, none⟩ = some (.int .u64 0) := c5
      have B5 := Lib.hid (S.out.bel.trans (hb5.mono S.out.bel.size))
      clear h5 hb5 c5
      go_wp2
      go_ret
      exact ⟨rfl, B5.out⟩
end Go.Proofs.Ytgbfdfkodocdiaa
