/-
  The walk of StoreApart.
-/
import Derived.Test.YtgbfdfkodocdiaaStoreLaw2
namespace Go.Proofs.Ytgbfdfkodocdiaa
open Go.RowKit St
theorem quiet_is {P : Program} {f : FuncId} {args : Array Value} {w : World} {n : Nat} {v : Value} (h : Calls P f args (w.drewN n) fun e w' => e = .returned v ∧ w.drewN n = w') :
    Calls P f args (w.drewN n) fun e w'' => e = .returned v ∧ ∃ m, w'' = w.drewN m := h.mono fun _ _ hh => ⟨hh.1, n, hh.2.symm⟩
theorem has_is (x : Nat) (i : Int) (b : Bool) (w : World) (hx : x < 18446744073709551616) (h0 : -9223372036854775808 ≤ i) (h1 : i ≤ 9223372036854775807) (h : Sm.has x i = b) :
    Calls Try.prog 24 #[.int .u64 x, .int .i64 i] w fun e w' => e = .returned (.bool b) ∧ w = w' := by
  have := has_any x i w hx h0 h1
  rwa [h] at this
theorem mark_has {m : Nat} (s : Int) (hm : m < 18446744073709551616) (h : slot s) : Sm.has (Sm.add m s) s = true := by
  rw [Sm.has_add_same m s hm, decide_eq_true h.1, decide_eq_true (show s < 64 by have := h.2; omega)]; rfl
structure ApSt (A T P M : Option Addr) (L : List Vr) (b : Nat) (x ver wr k n s : Int) (w W : World) : Prop where
  st : LawSt A T L b x ver wr k n w W
  pu : VarsAt W P (putL L x k n ver wr)
  ma : VarsAt W M (markL L x s)
theorem ApSt.below {A T P M : Option Addr} {L : List Vr} {b : Nat} {x ver wr k n s : Int} {w W W' : World} (h : ApSt A T P M L b x ver wr k n s w W) (hb : Below W.heap.size W W') : ApSt A T P M L b x ver wr k n s w W' :=
  ⟨h.st.below hb, h.pu.below hb (Nat.le_refl _), h.ma.below hb (Nat.le_refl _)⟩
def ApRel (A T P M : Option Addr) (L : List Vr) (b : Nat) (x ver wr k n s : Int) (w : World) (i : Value) (W : World) : Prop := ∃ q : Nat, q ≤ L.length ∧ i = .int .i64 q ∧ ApSt A T P M L b x ver wr k n s w W
set_option maxHeartbeats 8000000 in
set_option maxRecDepth 100000 in
theorem storeApart_walk (A : Option Addr) (N c : Nat) (L : List Vr) (x ver ww k n s : Int) (w : World) (hL : StoreArg w A N c L) (hver : i64p ver) (hwr : i64p ww) (hk : i64p k) (hn : i64p n) (hs : i64p s) :
    Calls Try.prog 5 #[.slice A N c, .agg #[.int .i64 x, .int .i64 ver, .int .i64 ww, .int .i64 k, .int .i64 n], .int .i64 s] w fun e w' => e = .returned (.bool true) ∧ Below w.heap.size w w' := by
  obtain ⟨rfl, hc, hm, hA⟩ := hL
  have HA := Lib.hid hA
  have HI := Lib.hid (show i64p k ∧ i64p n ∧ i64p ver ∧ i64p ww ∧ i64p s from ⟨hk, hn, hver, hwr, hs⟩)
  have hN : (L.length : Int) ≤ 9223372036854775807 := by unfold maxLen at hm; omega
  clear hA hver hwr hk hn hs hm hc
  go_enter Try.func5, Try.ntmps5
  go_wp2_with fail
  refine (alive_any _).mono ?_
  rintro e w1 ⟨rfl, hb1⟩
  have B1 := Lib.hid hb1
  clear hb1
  by_cases hbig : 100 < L.length
  · have hbig' : (100 : Int) < (L.length : Int) := by omega
    go_wp2
    go_ret
    exact ⟨rfl, law_below B1.out⟩
  have hbig' : ¬ (100 : Int) < (L.length : Int) := by omega
  have hl : L.length ≤ 100 := by omega
  go_wp2_with fail
  refine (theirs_slice _ _ _ _ (law_mid HA.out B1.out) hl).mono ?_
  rintro e w2 ⟨T, d, rfl, ht, hb2⟩
  have S2 := Lib.hid (law_start HA.out B1.out hb2 ht)
  obtain ⟨p0, p1, p2, p3, p4⟩ := S2.out.box
  clear ht hb2 B1
  go_wp2_with fail
  refine (put_slice _ _ _ _ _ _ _ _ _ S2.out.th hl HI.out.1 HI.out.2.1 HI.out.2.2.1 HI.out.2.2.2.1).mono ?_
  rintro e w3 ⟨A3, d3, rfl, h3, hb3⟩
  have S3 := Lib.hid (S2.out.below hb3)
  have H3 := Lib.hid h3
  clear h3 hb3 p0 p1 p2 p3 p4
  obtain ⟨p0, p1, p2, p3, p4⟩ := S3.out.box
  generalize hE : putE L x k n ww = E
  have HE := Lib.hid hE
  clear hE
  go_wp2_with fail
  refine (mark_slice _ _ _ _ _ _ S3.out.th hl).mono ?_
  rintro e w4 ⟨A4, d4, rfl, h4, hb4⟩
  have S4 := Lib.hid (show ApSt A T A3 A4 L w.heap.size x ver ww k n s w w4 from ⟨S3.out.below hb4, H3.out.below hb4 (Nat.le_refl _), h4⟩)
  generalize hF : markE L x s = F
  have HF := Lib.hid hF
  clear h4 hb4 hF p0 p1 p2 p3 p4 S2 S3 H3
  go_wp2
  go_loopw [55] (ApRel A T A3 A4 L w.heap.size x ver ww k n s w) (fun i _ => L.length - (intOf i).toNat)
  case atStart => exact ⟨0, Nat.zero_le _, rfl, S4.out⟩
  case round =>
    obtain ⟨q, hq, rfl, hst⟩ := hrel
    have S := Lib.hid hst
    clear hst
    obtain ⟨p0, p1, p2, p3, p4⟩ := S.out.st.box
    by_cases hlt : q < L.length
    · have hlt' : (q : Int) < (L.length : Int) := by omega
      have hq0 : (0 : Int) ≤ (q : Int) := by omega
      by_cases hqx : (q : Int) = x
      · have hd : ((q : Int) != x) = false := by simpa using hqx
        clear hqx
        go_wp2
        go_quiet (fail)
        go_wp2
        go_round
        case rel => exact ⟨q + 1, by omega, by go_num, S.out.below (below_drewN _ _ _)⟩
        case measure => simp [intOf]; omega
      · have hd : ((q : Int) != x) = true := by simpa using hqx
        obtain ⟨ad, v, rfl, hv, hok, h5⟩ := S.out.st.th.at_ hlt
        obtain ⟨ad3, v3, rfl, hv3, _, h53⟩ := S.out.pu.at_ (j := q) (by rw [putL_len]; exact hlt)
        obtain ⟨ad4, v4, rfl, hv4, _, h54⟩ := S.out.ma.at_ (j := q) (by rw [markL_len]; exact hlt)
        obtain rfl : v = v3 := Option.some.inj (hv.symm.trans ((putL_other hqx).symm.trans hv3))
        obtain rfl : v = v4 := Option.some.inj (hv.symm.trans ((markL_other hqx).symm.trans hv4))
        obtain ⟨t0, t1, t2, t3, t4⟩ := h5
        obtain ⟨a0, a1, a2, a3, a4⟩ := h53
        obtain ⟨b0, b1, b2, b3, b4⟩ := h54
        clear hqx hv hok hv3 hv4
        go_wp2
        go_quiet (fail)
        go_wp2
        go_round
        case rel => exact ⟨q + 1, by omega, by go_num, S.out.below (below_drewN _ _ _)⟩
        case measure => simp [intOf]; omega
    · have hlt' : ¬ (q : Int) < (L.length : Int) := by omega
      by_cases hF : F = 0
      · have hF0 := HF.out.trans hF
        have HF0 := Lib.hid hF0
        subst hF
        obtain ⟨j, rfl⟩ := Int.eq_ofNat_of_zero_le ((markE_zero hF0).1).1
        have hj : j < L.length := by have := ((markE_zero hF0).1).2; omega
        have hj' : (j : Int) < (L.length : Int) := by omega
        have hj0 : (0 : Int) ≤ (j : Int) := by omega
        clear hF0
        by_cases hE : E = 0
        · have hp := putL_same (ver := ver) (HE.out.trans hE)
          obtain ⟨ad3, v3, rfl, hv3, _, h53⟩ := S.out.pu.at_ (j := j) (by rw [putL_len]; exact hj)
          obtain rfl : _ = v3 := Option.some.inj (hp.symm.trans hv3)
          have a0 : _ = some (Value.int .i64 k) := h53.c0
          have a1 : _ = some (Value.int .i64 n) := h53.c1
          have a2 : _ = some (Value.int .i64 ver) := h53.c2
          have a3 : _ = some (Value.int .i64 ww) := h53.c3
          have a4 : _ = some (Value.int .u64 0) := h53.c4
          clear hp hv3 h53
          subst hE
          go_wp2
          go_quiet (fail)
          go_wp2
          have SW := Lib.hid (S.out.below (below_drewN wr.heap.size wr nq))
          clear p0 p1 p2 p3 p4
          generalize wr.drewN nq = W at SW ⊢
          obtain ⟨p0, p1, p2, p3, p4⟩ := SW.out.st.box
          obtain ⟨ad, v, rfl, hv, hok, h5⟩ := SW.out.st.th.at_ hj
          have hm2 := markL_same HF0.out hv
          obtain ⟨ad4, v4, rfl, hv4, _, h54⟩ := SW.out.ma.at_ (j := j) (by rw [markL_len]; exact hj)
          obtain rfl : _ = v4 := Option.some.inj (hm2.symm.trans hv4)
          have t0 := h5.c0
          have t1 := h5.c1
          have b0 : _ = some (Value.int .i64 v.k) := h54.c0
          have b1 : _ = some (Value.int .i64 v.n) := h54.c1
          have b4 : _ = some (Value.int .u64 (Sm.add v.m s : Nat)) := h54.c4
          have hb4 : Sm.add v.m s < 18446744073709551616 := Sm.add_lt s hok.2.2.2.2
          have HH := Lib.hid (mark_has s hok.2.2.2.2 (markE_zero HF0.out).2)
          clear hv hok h5 hm2 hv4 h54
          go_wp2
          go_quiet ((go_at_call 24; exact quiet_is (has_is _ _ _ _ hb4 HI.out.2.2.2.2.1 HI.out.2.2.2.2.2 HH.out)))
          go_wp2
          go_ret
          exact ⟨rfl, SW.out.st.bel.trans (below_drewN _ _ _)⟩
        · have hE0 : (E == 0) = false := by simpa using hE
          clear hE
          go_wp2
          go_quiet (fail)
          go_wp2
          have SW := Lib.hid (S.out.below (below_drewN wr.heap.size wr nq))
          clear p0 p1 p2 p3 p4
          generalize wr.drewN nq = W at SW ⊢
          obtain ⟨p0, p1, p2, p3, p4⟩ := SW.out.st.box
          obtain ⟨ad, v, rfl, hv, hok, h5⟩ := SW.out.st.th.at_ hj
          have hm2 := markL_same HF0.out hv
          obtain ⟨ad4, v4, rfl, hv4, _, h54⟩ := SW.out.ma.at_ (j := j) (by rw [markL_len]; exact hj)
          obtain rfl : _ = v4 := Option.some.inj (hm2.symm.trans hv4)
          have t0 := h5.c0
          have t1 := h5.c1
          have b0 : _ = some (Value.int .i64 v.k) := h54.c0
          have b1 : _ = some (Value.int .i64 v.n) := h54.c1
          have b4 : _ = some (Value.int .u64 (Sm.add v.m s : Nat)) := h54.c4
          have hb4 : Sm.add v.m s < 18446744073709551616 := Sm.add_lt s hok.2.2.2.2
          have HH := Lib.hid (mark_has s hok.2.2.2.2 (markE_zero HF0.out).2)
          clear hv hok h5 hm2 hv4 h54
          go_wp2
          go_quiet ((go_at_call 24; exact quiet_is (has_is _ _ _ _ hb4 HI.out.2.2.2.2.1 HI.out.2.2.2.2.2 HH.out)))
          go_wp2
          go_ret
          exact ⟨rfl, SW.out.st.bel.trans (below_drewN _ _ _)⟩
      · have hF0 : (F != 0) = true := by simpa using hF
        clear hF
        by_cases hE : E = 0
        · obtain ⟨j, rfl⟩ := Int.eq_ofNat_of_zero_le (putE_zero (HE.out.trans hE)).1
          have hj : j < L.length := by have := (putE_zero (HE.out.trans hE)).2; omega
          have hj' : (j : Int) < (L.length : Int) := by omega
          have hj0 : (0 : Int) ≤ (j : Int) := by omega
          have hp := putL_same (ver := ver) (HE.out.trans hE)
          obtain ⟨ad3, v3, rfl, hv3, _, h53⟩ := S.out.pu.at_ (j := j) (by rw [putL_len]; exact hj)
          obtain rfl : _ = v3 := Option.some.inj (hp.symm.trans hv3)
          have a0 : _ = some (Value.int .i64 k) := h53.c0
          have a1 : _ = some (Value.int .i64 n) := h53.c1
          have a2 : _ = some (Value.int .i64 ver) := h53.c2
          have a3 : _ = some (Value.int .i64 ww) := h53.c3
          have a4 : _ = some (Value.int .u64 0) := h53.c4
          clear hp hv3 h53
          subst hE
          go_wp2
          go_quiet (fail)
          go_wp2
          have SW := Lib.hid (S.out.below (below_drewN wr.heap.size wr nq))
          clear p0 p1 p2 p3 p4
          generalize wr.drewN nq = W at SW ⊢
          obtain ⟨p0, p1, p2, p3, p4⟩ := SW.out.st.box
          go_wp2
          go_quiet (fail)
          go_wp2
          go_ret
          exact ⟨rfl, SW.out.st.bel.trans (below_drewN _ _ _)⟩
        · have hE0 : (E == 0) = false := by simpa using hE
          clear hE
          go_wp2
          go_quiet (fail)
          go_wp2
          have SW := Lib.hid (S.out.below (below_drewN wr.heap.size wr nq))
          clear p0 p1 p2 p3 p4
          generalize wr.drewN nq = W at SW ⊢
          obtain ⟨p0, p1, p2, p3, p4⟩ := SW.out.st.box
          go_wp2
          go_quiet (fail)
          go_wp2
          go_ret
          exact ⟨rfl, SW.out.st.bel.trans (below_drewN _ _ _)⟩
end Go.Proofs.Ytgbfdfkodocdiaa
