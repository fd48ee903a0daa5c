/-
  The walk of StoreFirst.
-/
import Derived.Test.YtgbfdfkodocdiaaStoreLaw
namespace Go.Proofs.Ytgbfdfkodocdiaa
open Go.RowKit St
/-- nought in its box, and a store as it is at first. -/
structure FirstSt (T : Option Addr) (N b : Nat) (w W : World) : Prop where
  th : VarsAt W T (List.replicate N fresh)
  box : BoxAt W b 1 0
  bel : Below w.heap.size w W
theorem FirstSt.below {T : Option Addr} {N b : Nat} {w W W' : World} (h : FirstSt T N b w W) (hb : Below W.heap.size W W') : FirstSt T N b w W' :=
  ⟨h.th.below hb (Nat.le_refl _), h.box.below hb, h.bel.trans (hb.mono h.bel.size)⟩
def FirstRel (T : Option Addr) (N b : Nat) (w : World) (i : Value) (wr : World) : Prop := ∃ k : Nat, k ≤ N ∧ i = .int .i64 k ∧ FirstSt T N b w wr
structure FirstVals (T : Option Addr) (N b g base : Nat) (w W : World) : Prop where
  st : FirstSt T N b w W
  vs : ValsAt W base g N (List.replicate N (1, 0))
theorem FirstVals.below {T : Option Addr} {N b g base : Nat} {w W W' : World} (h : FirstVals T N b g base w W) (hb : Below W.heap.size W W') : FirstVals T N b g base w W' := ⟨h.st.below hb, h.vs.below hb (Nat.le_refl _)⟩
def FirstRel2 (T : Option Addr) (N b g base : Nat) (w : World) (i : Value) (wr : World) : Prop := ∃ k : Nat, k ≤ N ∧ i = .int .i64 k ∧ FirstVals T N b g base w wr
theorem rep_at {N k : Nat} (h : k < N) : (List.replicate N fresh)[k]? = some fresh := by rw [List.getElem?_replicate, if_pos h]
theorem get_first (A : Option Addr) (c j N : Nat) (w : World) (h : VarsAt w A (List.replicate N fresh)) (hj : j < N) :
    Calls Try.prog 11 #[.slice A N c, .int .i64 (j : Nat)] w fun e w' => e = .returned (.tuple #[.agg #[.int .i64 1, .int .i64 0, .int .i64 0, .int .i64 (-1), .int .u64 0], .int .i64 0]) ∧ Below w.heap.size w w' := by
  have := get_any A c (List.replicate N fresh) (j : Nat) w h
  have hx : has (List.replicate N fresh) (j : Nat) := ⟨by omega, by simp; omega⟩
  have hat : at_ (List.replicate N fresh) (j : Nat) = fresh := by have := at_mem hx; rw [Int.toNat_natCast, rep_at hj] at this; exact (Option.some.inj this).symm
  rw [getR_yes hx, hat, List.length_replicate] at this
  exact this
theorem values_first (A : Option Addr) (c N : Nat) (w : World) (h : VarsAt w A (List.replicate N fresh)) (hN : N ≤ 64) :
    Calls Try.prog 19 #[.slice A N c] w fun e w' => ∃ g, e = .returned (.slice (some ⟨g, 0, none⟩) N N) ∧ ValsAt w' w.heap.size g N (List.replicate N (1, 0)) ∧ Below w.heap.size w w' := by
  have := values_any A c (List.replicate N fresh) w h (by simp; omega)
  rw [List.length_replicate, List.map_replicate] at this
  exact this
set_option maxHeartbeats 4000000 in
set_option maxRecDepth 100000 in
theorem storeFirst_walk (n : Int) (w : World) : Calls Try.prog 8 #[.int .i64 n] w fun e w' => e = .returned (.bool true) ∧ Below w.heap.size w w' := by
  by_cases h : 0 ≤ n ∧ n ≤ 64
  · obtain ⟨N, rfl⟩ := Int.eq_ofNat_of_zero_le h.1
    have hN : N ≤ 64 := by omega
    have h1 : ((0 : Int) ≤ (N : Int)) := by omega
    have h2 : ((N : Int) ≤ 64) := by omega
    clear h
    go_enter Try.func8, Try.ntmps8
    go_wp2_with fail
    refine (alive_any _).mono ?_
    rintro e w1 ⟨rfl, hb1⟩
    have B1 := Lib.hid hb1
    clear hb1
    go_wp2_with fail
    refine (new_yes N _ hN).mono ?_
    rintro e w2 ⟨T, d, rfl, ht, hb2⟩
    rw [List.length_replicate]
    have HT := Lib.hid ht
    have B2 := Lib.hid (B1.out.trans (hb2.mono B1.out.size))
    have S3 := Lib.hid (show FirstSt T N w2.heap.size w (w2.alloc (.cells #[.int .i64 1, .int .i64 0] 31)) from ⟨ht.alloc _, boxAt_new w2 1 0 31, B2.out.alloc B2.out.size _⟩)
    clear ht hb2 B1
    go_wp2
    go_loopw [36] (FirstRel T N w2.heap.size w) (fun i _ => N - (intOf i).toNat)
    case atStart => exact ⟨0, Nat.zero_le _, rfl, S3.out⟩
    case round =>
      obtain ⟨k, hk, rfl, hst⟩ := hrel
      have S := Lib.hid hst
      clear hst
      by_cases hlt : k < N
      · have hlt' : (k : Int) < (N : Int) := by omega
        obtain ⟨ad, v, rfl, hv, hok, h5⟩ := S.out.th.at_ (j := k) (by simpa using hlt)
        obtain rfl : fresh = v := Option.some.inj ((rep_at hlt).symm.trans hv)
        obtain ⟨c0, c1, c2, c3, c4⟩ := h5
        unfold fresh at c0 c1 c2 c3 c4
        clear hv hok
        have S4 := Lib.hid (S.out.below (below_new wr (.cells #[.int .i64 1, .int .i64 0, .int .i64 0, .int .i64 (-1), .int .u64 0] 35)))
        have V4 := Lib.hid (show VarAt (wr.alloc (.cells #[.int .i64 1, .int .i64 0, .int .i64 0, .int .i64 (-1), .int .u64 0] 35)) wr.heap.size 35 fresh from varAt_new wr fresh 35)
        go_wp2_with fail
        refine (get_first _ _ _ _ _ S4.out.th hlt).mono ?_
        rintro e w5 ⟨rfl, hb5⟩
        have S6 := Lib.hid ((S4.out.below hb5).below (below_new w5 (.cells #[.int .i64 1, .int .i64 0, .int .i64 0, .int .i64 (-1), .int .u64 0] 35)))
        have V6 := (V4.out.below hb5 V4.out.lt).alloc (.cells #[.int .i64 1, .int .i64 0, .int .i64 0, .int .i64 (-1), .int .u64 0] 35)
        have v0 := V6.c0
        have v1 := V6.c1
        have v2 := V6.c2
        have v3 := V6.c3
        have v4 := V6.c4
        unfold fresh at v0 v1 v2 v3 v4
        obtain ⟨z0, z1⟩ := S6.out.box
        clear V6 hb5 c0 c1 c2 c3 c4
        go_wp2
        go_round
        case rel => exact ⟨k + 1, by omega, by go_num, S6.out⟩
        case measure => simp [intOf]; omega
      · have hlt' : ¬ (k : Int) < (N : Int) := by omega
        go_wp2_with fail
        refine (values_first _ _ _ _ S.out.th hN).mono ?_
        rintro e w5 ⟨g, rfl, hv, hb5⟩
        have S5 := Lib.hid (show FirstVals T N w2.heap.size g wr.heap.size w w5 from ⟨S.out.below hb5, hv⟩)
        clear hv hb5
        go_wp2
        go_loopw [65] (FirstRel2 T N w2.heap.size g wr.heap.size w) (fun i _ => N - (intOf i).toNat)
        case atStart => exact ⟨0, Nat.zero_le _, rfl, S5.out⟩
        case round =>
          obtain ⟨q, hq, rfl, hst⟩ := hrel
          have S := Lib.hid hst
          clear hst
          by_cases hlt : q < N
          · have hlt' : (q : Int) < (N : Int) := by omega
            have e0 : (List.replicate N ((1 : Int), (0 : Int)))[q]? = some (1, 0) := by rw [List.getElem?_replicate, if_pos hlt]
            have c0 := S.out.vs.get0 e0
            have c1 := S.out.vs.get1 e0
            have S6 := Lib.hid (S.out.below (below_new _ (.cells #[.int .i64 1, .int .i64 0] 31)))
            obtain ⟨z0, z1⟩ := S6.out.st.box
            clear e0
            go_wp2
            go_round
            case rel => exact ⟨q + 1, by omega, by go_num, S6.out⟩
            case measure => simp [intOf]; omega
          · have hlt' : ¬ (q : Int) < (N : Int) := by omega
            go_wp2
            go_ret
            exact ⟨rfl, S.out.st.bel⟩
  · go_enter Try.func8, Try.ntmps8
    go_wp2_with fail
    refine (alive_any _).mono ?_
    rintro e w1 ⟨rfl, hb1⟩
    have B1 := Lib.hid hb1
    clear hb1
    go_wp2_with fail
    refine (new_no n _ h).mono ?_
    rintro e w2 ⟨T, d, rfl, ht, hb2⟩
    have B2 := Lib.hid (B1.out.trans (hb2.mono B1.out.size))
    clear ht hb2
    by_cases h0 : 0 ≤ n
    · have h1 : ¬ (n ≤ 64) := by omega
      have hd : decide (0 ≤ n) = true := by simpa using h0
      clear h
      go_wp2
      go_ret
      exact ⟨rfl, B2.out⟩
    · have hd : decide (0 ≤ n) = false := by simpa using h0
      clear h
      go_wp2
      go_ret
      exact ⟨rfl, B2.out⟩
end Go.Proofs.Ytgbfdfkodocdiaa
