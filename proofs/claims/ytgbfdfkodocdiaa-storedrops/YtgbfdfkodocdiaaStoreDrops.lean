/-
  The walk of StoreDrops.
-/
import Derived.Test.YtgbfdfkodocdiaaStoreLaw
namespace Go.Proofs.Ytgbfdfkodocdiaa
open Go.RowKit St
theorem quiet_eq {P : Program} {f : FuncId} {args : Array Value} {w : World} {n : Nat} {v : Value} (h : Calls P f args (w.drewN n) fun e w' => e = .returned v ∧ w.drewN n = w') :
    Calls P f args (w.drewN n) fun e w'' => e = .returned v ∧ ∃ m, w'' = w.drewN m := h.mono fun _ _ hh => ⟨hh.1, n, hh.2.symm⟩
theorem u8_rest (s : Nat) : ∃ r : Nat, ((s : Nat) : Int).tmod 32 = (r : Int) ∧ r < 32 := ⟨s % 32, by rw [Int.tmod_eq_emod_of_nonneg (by omega)]; omega, Nat.mod_lt _ (by decide)⟩
structure DropsSt (T D : Option Addr) (L : List Vr) (r : Nat) (w W : World) : Prop where
  th : VarsAt W T L
  dr : VarsAt W D (dropL L (r : Nat))
  bel : Below w.heap.size w W
theorem DropsSt.below {T D : Option Addr} {L : List Vr} {r : Nat} {w W W' : World} (h : DropsSt T D L r w W) (hb : Below W.heap.size W W') : DropsSt T D L r w W' :=
  ⟨h.th.below hb (Nat.le_refl _), h.dr.below hb (Nat.le_refl _), h.bel.trans (hb.mono h.bel.size)⟩
def DropsRel (T D : Option Addr) (L : List Vr) (r : Nat) (w : World) (i : Value) (wr : World) : Prop := ∃ k : Nat, k ≤ L.length ∧ i = .int .i64 k ∧ DropsSt T D L r w wr
theorem has_val (x : Nat) (i : Int) (b : Bool) (w : World) (hx : x < 18446744073709551616) (h0 : -9223372036854775808 ≤ i) (h1 : i ≤ 9223372036854775807) (h : Sm.has x i = b) :
    Calls Try.prog 24 #[.int .u64 x, .int .i64 i] w fun e w' => e = .returned (.bool b) ∧ w = w' := by
  have := has_any x i w hx h0 h1
  rwa [h] at this
theorem with_val (x y : Nat) (i : Int) (w : World) (hx : x < 18446744073709551616) (h0 : -9223372036854775808 ≤ i) (h1 : i ≤ 9223372036854775807) (h : Sm.add x i = y) :
    Calls Try.prog 25 #[.int .u64 x, .int .i64 i] w fun e w' => e = .returned (.int .u64 (y : Nat)) ∧ w = w' := by
  have := with_any x i w hx h0 h1
  rwa [h] at this
theorem less_gone {x r : Nat} (hx : x < 18446744073709551616) (hr : r < 32) : Sm.has (Sm.less x (r : Nat)) (r : Nat) = false := by
  rw [Sm.has_nat r (Sm.less_lt _ hx), Sm.less_test _ _ hx, decide_eq_true (by omega)]
  simp
theorem less_back {x r : Nat} (hx : x < 18446744073709551616) : Sm.add (Sm.less x (r : Nat)) (r : Nat) = Sm.add x (r : Nat) := by
  apply Sm.ext; intro j
  rw [Sm.add_test, Sm.add_test, Sm.less_test _ _ hx]
  by_cases e : (0 ≤ ((r : Nat) : Int) ∧ ((r : Nat) : Int) ≤ 63 ∧ ((j : Nat) : Int) = ((r : Nat) : Int))
  · rw [decide_eq_true e]; simp
  · rw [decide_eq_false e]; simp
set_option maxHeartbeats 8000000 in
set_option maxRecDepth 100000 in
theorem storeDrops_walk (A : Option Addr) (N c : Nat) (L : List Vr) (s : Nat) (w : World) (hL : StoreArg w A N c L) (hs : s < 256) :
    Calls Try.prog 6 #[.slice A N c, .int .u8 (s : Nat)] w fun e w' => e = .returned (.bool true) ∧ Below w.heap.size w w' := by
  obtain ⟨rfl, hc, hm, hA⟩ := hL
  have HA := Lib.hid hA
  have hN : (L.length : Int) ≤ 9223372036854775807 := by unfold maxLen at hm; omega
  obtain ⟨r, hr, hr32⟩ := u8_rest s
  clear hA hm hc
  go_enter Try.func6, Try.ntmps6
  go_wp2_with fail
  refine (alive_any _).mono ?_
  rintro e w1 ⟨rfl, hb1⟩
  have B1 := Lib.hid hb1
  clear hb1
  by_cases hbig : 100 < L.length
  · have hbig' : (100 : Int) < (L.length : Int) := by omega
    go_wp2
    go_ret
    exact ⟨rfl, B1.out⟩
  have hbig' : ¬ (100 : Int) < (L.length : Int) := by omega
  have hl : L.length ≤ 100 := by omega
  go_wp2_with fail
  refine (theirs_slice _ _ _ _ (HA.out.below B1.out (Nat.le_refl _)) hl).mono ?_
  rintro e w2 ⟨T, d, rfl, ht, hb2⟩
  have HT := Lib.hid ht
  have B2 := Lib.hid (B1.out.trans (hb2.mono B1.out.size))
  clear ht hb2 B1
  go_wp2_with fail
  refine (drop_slice _ _ _ (r : Nat) _ HT.out hl ⟨by omega, by omega⟩).mono ?_
  rintro e w3 ⟨D, d3, rfl, h3, hb3⟩
  have S3 := Lib.hid (show DropsSt T D L r w w3 from ⟨HT.out.below hb3 (Nat.le_refl _), h3, B2.out.trans (hb3.mono B2.out.size)⟩)
  clear h3 hb3
  go_wp2
  go_loopw [30] (DropsRel T D L r w) (fun i _ => L.length - (intOf i).toNat)
  case atStart => exact ⟨0, Nat.zero_le _, rfl, S3.out⟩
  case round =>
    obtain ⟨k, hk, rfl, hst⟩ := hrel
    have S := Lib.hid hst
    clear hst
    by_cases hlt : k < L.length
    · have hlt' : (k : Int) < (L.length : Int) := by omega
      have hk0 : (0 : Int) ≤ (k : Int) := by omega
      obtain ⟨ad, u, rfl, hu, hok, h5⟩ := S.out.th.at_ hlt
      obtain ⟨ad', v, rfl, hv, hok', h5'⟩ := S.out.dr.at_ (j := k) (by rw [dropL_len]; exact hlt)
      obtain rfl : dr (r : Nat) u = v := Option.some.inj ((map_at (f := dr (r : Nat)) hu).symm.trans hv)
      have hmu := hok.2.2.2.2
      have hml : Sm.less u.m (r : Nat) < 18446744073709551616 := Sm.less_lt _ hmu
      have HG := Lib.hid (less_gone hmu hr32)
      have HX := Lib.hid (less_back (r := r) hmu)
      by_cases hw : u.wr = (r : Nat)
      · have hwr : (dr (r : Nat) u).wr = -1 := by unfold dr; rw [if_pos hw]
        have a0 := h5.c0
        have a1 := h5.c1
        have a2 := h5.c2
        have a3 := h5.c3
        have a4 := h5.c4
        have b0 : _ = some (Value.int .i64 u.k) := h5'.c0
        have b1 : _ = some (Value.int .i64 u.n) := h5'.c1
        have b2 : _ = some (Value.int .i64 u.ver) := h5'.c2
        have b3 := h5'.c3
        have b4 : _ = some (Value.int .u64 (Sm.less u.m (r : Nat) : Nat)) := h5'.c4
        rw [hwr] at b3
        rw [hw] at a3
        have S4 := Lib.hid (S.out.below (below_new wr (.cells #[.int .i64 u.k, .int .i64 u.n, .int .i64 u.ver, .int .i64 (-1), .int .u64 (Sm.less u.m (r : Nat) : Nat)] 35)))
        obtain ⟨_, u', e4, hu', _, h54⟩ := S4.out.th.at_ hlt
        cases e4
        obtain rfl : u = u' := Option.some.inj (hu.symm.trans hu')
        have t0 := h54.c0
        have t1 := h54.c1
        have t2 := h54.c2
        have t3 := h54.c3
        have t4 := h54.c4
        rw [hw] at t3
        have hne : ((-1 : Int) == (r : Int)) = false := by simp
        have hne' : ((-1 : Int) != (r : Int)) = true := by simp
        clear hu hok h5 hv hok' h5' hwr hw hu' h54
        go_wp2
        go_quiet (first
          | (go_at_call 24; exact quiet_eq (has_val _ _ _ _ hml (by omega) (by omega) HG.out))
          | (go_at_call 25; exact quiet_eq (with_val _ _ _ _ hml (by omega) (by omega) HX.out))
          | (go_at_call 25; exact quiet_eq (with_val _ _ _ _ hmu (by omega) (by omega) rfl)))
        go_wp2
        go_round
        case rel => exact ⟨k + 1, by omega, by go_num, S4.out.below (below_drewN _ _ _)⟩
        case measure => simp [intOf]; omega
      · have hwr : (dr (r : Nat) u).wr = u.wr := by unfold dr; rw [if_neg hw]
        have a0 := h5.c0
        have a1 := h5.c1
        have a2 := h5.c2
        have a3 := h5.c3
        have a4 := h5.c4
        have b0 : _ = some (Value.int .i64 u.k) := h5'.c0
        have b1 : _ = some (Value.int .i64 u.n) := h5'.c1
        have b2 : _ = some (Value.int .i64 u.ver) := h5'.c2
        have b3 := h5'.c3
        have b4 : _ = some (Value.int .u64 (Sm.less u.m (r : Nat) : Nat)) := h5'.c4
        rw [hwr] at b3
        have S4 := Lib.hid (S.out.below (below_new wr (.cells #[.int .i64 u.k, .int .i64 u.n, .int .i64 u.ver, .int .i64 u.wr, .int .u64 (Sm.less u.m (r : Nat) : Nat)] 35)))
        obtain ⟨_, u', e4, hu', _, h54⟩ := S4.out.th.at_ hlt
        cases e4
        obtain rfl : u = u' := Option.some.inj (hu.symm.trans hu')
        have t0 := h54.c0
        have t1 := h54.c1
        have t2 := h54.c2
        have t3 := h54.c3
        have t4 := h54.c4
        have hne : (u.wr == (r : Int)) = false := by simpa using hw
        clear hu hok h5 hv hok' h5' hwr hw hu' h54
        go_wp2
        go_quiet (first
          | (go_at_call 24; exact quiet_eq (has_val _ _ _ _ hml (by omega) (by omega) HG.out))
          | (go_at_call 25; exact quiet_eq (with_val _ _ _ _ hml (by omega) (by omega) HX.out))
          | (go_at_call 25; exact quiet_eq (with_val _ _ _ _ hmu (by omega) (by omega) rfl)))
        go_wp2
        go_round
        case rel => exact ⟨k + 1, by omega, by go_num, S4.out.below (below_drewN _ _ _)⟩
        case measure => simp [intOf]; omega
    · have hlt' : ¬ (k : Int) < (L.length : Int) := by omega
      go_wp2
      go_ret
      exact ⟨rfl, S.out.bel⟩
end Go.Proofs.Ytgbfdfkodocdiaa
