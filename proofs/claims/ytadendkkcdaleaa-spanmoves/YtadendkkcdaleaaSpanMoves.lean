/-
  The walk of SpanMoves: for any two pairs of numbers of 16 bits, and one more, it answers true; nothing that was there is changed.
-/
import Derived.Test.YtadendkkcdaleaaSpanParts
import Derived.Deep.RegionWith
namespace Go.Proofs.Ytadendkkcdaleaa
open Go.RowKit Fl
def sh (p : Nat × Nat) (k : Nat) : Nat × Nat := (p.1 + k, p.2 + k)
theorem mv_fore {p : Nat × Nat} {k : Nat} (h1 : p.1 ≤ p.2) (h2 : p.2 + k ≤ 1000000) : mv (some p) (k : Int) = some (sh p k) := by
  rw [mv_in (by omega), if_neg (show ¬ p.2 = never by unfold never; omega), mk_some (by omega)]
  unfold sh
  congr 2 <;> omega
theorem mv_hind {p : Nat × Nat} {k : Nat} (h1 : p.1 ≤ p.2) (h2 : p.2 + k ≤ 1000000) : mv (some (sh p k)) (-(k : Int)) = some p := by
  unfold sh
  rw [mv_in (by omega), if_neg (show ¬ p.2 + k = never by unfold never; omega), mk_some (by simp only; omega)]
  congr 1
  obtain ⟨b, e⟩ := p
  simp only at *
  congr 1 <;> omega
theorem bf_sh (p q : Nat × Nat) (k : Nat) : bf (some (sh p k)) (some (sh q k)) = bf (some p) (some q) := by
  show decide (p.2 + k < q.1 + k) = decide (p.2 < q.1)
  rw [Bool.eq_iff_iff]; simp
theorem mts_sh (p q : Nat × Nat) (k : Nat) : mts (some (sh p k)) (some (sh q k)) = mts (some p) (some q) := by
  unfold mts; rw [bf_sh, bf_sh]; rfl
theorem small_good {p : Nat × Nat} (h1 : p.1 ≤ p.2) (h2 : p.2 ≤ 1000000) : Fl.Good (some p) := by
  intro b e h
  injection h with h
  subst h
  unfold never
  simp only at *
  omega
set_option maxHeartbeats 1000000 in
set_option maxRecDepth 100000 in
theorem moves_core (a0 a1 b0 b1 k : Nat) (X Y U V : Nat × Nat) (w : World) (ha0 : a0 ≤ 65535) (ha1 : a1 ≤ 65535) (hb0 : b0 ≤ 65535) (hb1 : b1 ≤ 65535) (hk : k ≤ 65535)
    (HX : Hid (mk (a0 : Nat) ((a0 : Int) + (a1 : Int)) = some X)) (HY : Hid (mk (b0 : Nat) ((b0 : Int) + (b1 : Int)) = some Y))
    (HU : Hid (mv (some X) (k : Nat) = some U)) (HV : Hid (mv (some Y) (k : Nat) = some V)) (HB : Hid (mv (some U) (-(k : Int)) = some X))
    (SX : Hid (spn (re_ (some X)) (im_ (some X)) = some X)) (SY : Hid (spn (re_ (some Y)) (im_ (some Y)) = some Y)) (SU : Hid (spn (re_ (some U)) (im_ (some U)) = some U)) (SV : Hid (spn (re_ (some V)) (im_ (some V)) = some V))
    (BB : Hid (bf (some U) (some V) = bf (some X) (some Y))) (MM : Hid (mts (some U) (some V) = mts (some X) (some Y)))
    (o1 : FloatKind.f64.format.order (re_ (some X)) (re_ (some X)) = some .eq) (o2 : FloatKind.f64.format.order (im_ (some X)) (im_ (some X)) = some .eq)
    (hd : IntKind.i64.wrap (((en (some U) : Nat) : Int) - ((bg (some U) : Nat) : Int)) = (a1 : Int)) :
    Calls Try.prog 7 #[.agg #[.int .u16 (a0 : Nat), .int .u16 (a1 : Nat)], .agg #[.int .u16 (b0 : Nat), .int .u16 (b1 : Nat)], .int .u16 (k : Nat)] w fun e w' => e = .returned (.bool true) ∧ Below w.heap.size w w' := by
  go_enter Try.func7, Try.ntmps7
  go_wp2_with fail
  refine (alive_any _).mono ?_
  rintro e w' ⟨rfl, rfl⟩
  go_wp2_with fail
  refine (of_at _ _ _ _ HX.out).mono ?_
  rintro e w' ⟨rfl, rfl⟩
  unfold ans
  go_wp2_with fail
  refine (of_at _ _ _ _ HY.out).mono ?_
  rintro e w' ⟨rfl, rfl⟩
  unfold ans
  go_wp2_with fail
  refine (move_at _ _ _ _ _ SX.out).mono ?_
  rintro e w' ⟨rfl, rfl⟩
  rw [HU.out]
  unfold ans
  go_wp2_with fail
  refine (move_at _ _ _ _ _ SY.out).mono ?_
  rintro e w' ⟨rfl, rfl⟩
  rw [HV.out]
  unfold ans
  go_wp2_with fail
  refine (move_at _ _ _ _ _ SU.out).mono ?_
  rintro e w' ⟨rfl, rfl⟩
  rw [HB.out]
  unfold ans
  go_wp2
  go_quiet ((first
    | (go_at_call_of 15 (re_ (some U)); exact quiet_left (before_val _ _ _ _ _ _ _ _ SU.out SV.out BB.out))
    | (go_at_call_of 15 (re_ (some X)); exact quiet_left (before_at _ _ _ _ _ _ _ SX.out SY.out))
    | (go_at_call_of 17 (re_ (some U)); exact quiet_left (meet_val _ _ _ _ _ _ _ _ SU.out SV.out MM.out))
    | (go_at_call_of 17 (re_ (some X)); exact quiet_left (meet_at _ _ _ _ _ _ _ SX.out SY.out))
    | (go_at_call 23; exact quiet_left (end_at _ _ _ _ SU.out))
    | (go_at_call 22; exact quiet_left (begin_at _ _ _ _ SU.out))))
  go_wp2
  go_ret
  exact ⟨rfl, below_drewN (below2 _ _ _) _⟩
theorem spanMoves_walk (a0 a1 b0 b1 k : Nat) (w : World) (ha0 : a0 ≤ 65535) (ha1 : a1 ≤ 65535) (hb0 : b0 ≤ 65535) (hb1 : b1 ≤ 65535) (hk : k ≤ 65535) :
    Calls Try.prog 7 #[.agg #[.int .u16 (a0 : Nat), .int .u16 (a1 : Nat)], .agg #[.int .u16 (b0 : Nat), .int .u16 (b1 : Nat)], .int .u16 (k : Nat)] w fun e w' => e = .returned (.bool true) ∧ Below w.heap.size w w' := by
  have hx : mk (a0 : Nat) ((a0 : Int) + (a1 : Int)) = some (a0, a0 + a1) := by rw [mk_some (by omega)]; congr 2
  have hy : mk (b0 : Nat) ((b0 : Int) + (b1 : Int)) = some (b0, b0 + b1) := by rw [mk_some (by omega)]; congr 2
  have gx : Fl.Good (some (a0, a0 + a1)) := small_good (by simp) (by simp only; omega)
  have gy : Fl.Good (some (b0, b0 + b1)) := small_good (by simp) (by simp only; omega)
  have gu : Fl.Good (some (sh (a0, a0 + a1) k)) := small_good (by simp [sh]) (by simp only [sh]; omega)
  have gv : Fl.Good (some (sh (b0, b0 + b1) k)) := small_good (by simp [sh]) (by simp only [sh]; omega)
  refine moves_core a0 a1 b0 b1 k _ _ _ _ w ha0 ha1 hb0 hb1 hk hx hy (mv_fore (by simp) (by simp only; omega)) (mv_fore (by simp) (by simp only; omega)) (mv_hind (by simp) (by simp only; omega))
    (spn_ans gx) (spn_ans gy) (spn_ans gu) (spn_ans gv) (bf_sh _ _ _) (mts_sh _ _ _) (ord_re_self gx) (ord_im_self gx) ?_
  show IntKind.i64.wrap (((a0 + a1 + k : Nat) : Int) - ((a0 + k : Nat) : Int)) = (a1 : Int)
  rw [IntKind.wrap_i64]; omega
end Go.Proofs.Ytadendkkcdaleaa
