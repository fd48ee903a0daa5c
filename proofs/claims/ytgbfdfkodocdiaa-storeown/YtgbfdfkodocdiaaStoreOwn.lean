/-
  The walk of StoreOwn.
-/
import Derived.Test.YtgbfdfkodocdiaaStoreLaw
namespace Go.Proofs.Ytgbfdfkodocdiaa
open Go.RowKit St
set_option maxHeartbeats 4000000 in
set_option maxRecDepth 100000 in
theorem storeOwn_walk (A : Option Addr) (N c : Nat) (L : List Vr) (x ver wr k n s : Int) (w : World) (hL : StoreArg w A N c L) (_ : i64p x) (hver : i64p ver) (hwr : i64p wr) (hk : i64p k) (hn : i64p n) (hs : i64p s) :
    Calls Try.prog 4 #[.slice A N c, .agg #[.int .i64 x, .int .i64 ver, .int .i64 wr, .int .i64 k, .int .i64 n], .int .i64 s] w fun e w' => e = .returned (.bool true) ∧ Below w.heap.size w w' := by
  obtain ⟨rfl, hc, hm, hA⟩ := hL
  have HA := Lib.hid hA
  have HI := Lib.hid (show i64p k ∧ i64p n ∧ i64p ver ∧ i64p wr ∧ i64p s from ⟨hk, hn, hver, hwr, hs⟩)
  have hN : (L.length : Int) ≤ 9223372036854775807 := by unfold maxLen at hm; omega
  clear hA hver hwr hk hn hs hm hc
  go_enter Try.func4, Try.ntmps4
  go_wp2_with fail
  refine (alive_any _).mono ?_
  rintro e w1 ⟨rfl, hb1⟩
  have B1 := Lib.hid hb1
  clear hb1
  by_cases hbig : 100 < L.length
  · have hbig' : (100 : Int) < (L.length : Int) := by omega
    go_wp2
    go_ret
    exact ⟨rfl, law_below B1.out⟩
  have hbig' : ¬ (100 : Int) < (L.length : Int) := by omega
  have hl : L.length ≤ 100 := by omega
  go_wp2_with fail
  refine (theirs_slice _ _ _ _ (law_mid HA.out B1.out) hl).mono ?_
  rintro e w2 ⟨T, d, rfl, ht, hb2⟩
  have S2 := Lib.hid (law_start HA.out B1.out hb2 ht)
  obtain ⟨p0, p1, p2, p3, p4⟩ := S2.out.box
  clear ht hb2 B1
  go_wp2_with fail
  refine (put_any _ _ _ _ _ _ _ _ _ S2.out.th hl HI.out.1 HI.out.2.1 HI.out.2.2.1 HI.out.2.2.2.1).mono ?_
  rintro e w3 ⟨A3, d3, rfl, _, hb3⟩
  have S3 := Lib.hid (S2.out.below hb3)
  clear hb3 p0 p1 p2 p3 p4
  obtain ⟨p0, p1, p2, p3, p4⟩ := S3.out.box
  go_wp2_with fail
  refine (mark_any _ _ _ _ _ _ S3.out.th hl).mono ?_
  rintro e w4 ⟨A4, d4, rfl, _, hb4⟩
  have S4 := Lib.hid (S3.out.below hb4)
  clear hb4 p0 p1 p2 p3 p4
  go_wp2_with fail
  refine (drop_slice _ _ _ _ _ S4.out.th hl HI.out.2.2.2.2).mono ?_
  rintro e w5 ⟨A5, d5, rfl, _, hb5⟩
  have S5 := Lib.hid (S4.out.below hb5)
  clear hb5
  go_wp2_with fail
  refine (values_any _ _ _ _ S5.out.th hl).mono ?_
  rintro e w6 ⟨g, rfl, hv, hb6⟩
  have S6 := Lib.hid (S5.out.below hb6)
  by_cases h0 : 0 < L.length
  · have h0' : (0 : Int) < (L.length : Int) := by omega
    have e0 := map_at (f := vp) (List.getElem?_eq_getElem h0)
    have c1 := hv.get1 e0
    have f := hv.free
    have S7 := Lib.hid (S5.out.below (hb6.setCell (p := ⟨g, 1, none⟩) hv.ge.1 (.int .i64 (wrap64 ((vp L[0]).2 + 1)))))
    clear hb6 hv e0
    generalize (vp L[0]).2 = z at *
    simp only [Nat.zero_mul, Nat.zero_add] at c1
    go_wp2_with fail
    refine (ours_slice _ _ _ _ S7.out.th hl).mono ?_
    rintro e w8 ⟨T8, d8, rfl, h8, hb8⟩
    have S8 := Lib.hid (S7.out.below hb8)
    have H8 := Lib.hid h8
    clear h8 hb8
    go_wp2_with fail
    refine (same_yes _ _ _ _ _ _ H8.out S8.out.arg hl).mono ?_
    rintro e w9 ⟨rfl, hb9⟩
    have S9 := Lib.hid (S8.out.below hb9)
    clear hb9
    go_wp2
    go_ret
    exact ⟨rfl, S9.out.bel⟩
  · have h0' : ¬ (0 : Int) < (L.length : Int) := by omega
    clear hb6 hv
    go_wp2_with fail
    refine (ours_slice _ _ _ _ S6.out.th hl).mono ?_
    rintro e w8 ⟨T8, d8, rfl, h8, hb8⟩
    have S8 := Lib.hid (S6.out.below hb8)
    have H8 := Lib.hid h8
    clear h8 hb8
    go_wp2_with fail
    refine (same_yes _ _ _ _ _ _ H8.out S8.out.arg hl).mono ?_
    rintro e w9 ⟨rfl, hb9⟩
    have S9 := Lib.hid (S8.out.below hb9)
    clear hb9
    go_wp2
    go_ret
    exact ⟨rfl, S9.out.bel⟩
end Go.Proofs.Ytgbfdfkodocdiaa
