/-
  The walk of SpanWrong: for any two floats it answers true; nothing that was there is changed.
-/
import Derived.Test.YtadendkkcdaleaaSpanParts
namespace Go.Proofs.Ytadendkkcdaleaa
open Go.RowKit Fl Ieee
/-- greater, or the same. -/
def geq (x y : Nat) : Bool := ord x y == some .gt || ord x y == some .eq
theorem geq_num {x y A B : Nat} {s t : Bool} (hx : Num x s A) (hy : Num y t B) : geq x y = decide (Fl.sg t B ≤ Fl.sg s A) := by
  unfold geq
  rw [ord_eq, order_num hx hy]
  generalize Fl.sg s A = a
  generalize Fl.sg t B = b
  rcases Int.lt_trichotomy a b with h | h | h
  · rw [Int.compare_eq_lt.2 h]; simp; omega
  · rw [Int.compare_eq_eq.2 h]; simp; omega
  · rw [Int.compare_eq_gt.2 h]; simp; omega
theorem ranges {re im : Nat} (h1 : ge0 re = true) (h2 : geq im re = true) (h3 : leN im = true) : ge0 im = true ∧ leN re = true := by
  obtain ⟨m0, p0, hz, _, _⟩ := zero_num
  obtain ⟨mN, pN, hn, _, _⟩ := never_num
  have hre : ∃ s A, Num re s A := by
    rcases cases_ re with ⟨s, t, h⟩ | ⟨s, h⟩ | h
    · exact absurd h (not_nan h1 s t)
    · exfalso
      unfold ge0 at h1
      rw [ord_eq, Format.order, h, hz] at h1
      cases s
      · rcases cases_ im with ⟨s', t', h'⟩ | ⟨s', h'⟩ | ⟨s', B, m', p', h', _⟩
        · unfold geq at h2
          rw [ord_eq, Format.order, h', h] at h2
          simp [Datum.order] at h2
        · unfold geq at h2
          unfold leN at h3
          rw [ord_eq, Format.order, h', h] at h2
          rw [ord_eq, Format.order, h', hn] at h3
          cases s' <;> simp [Datum.order] at h2 h3
          revert h2; decide
        · unfold geq at h2
          rw [ord_eq, Format.order, h', h] at h2
          simp [Datum.order] at h2
      · simp [Datum.order] at h1
    · exact h
  obtain ⟨s, A, hA⟩ := hre
  have hs := (ge0_num hA).1 h1
  have him : ∃ t B, Num im t B := by
    rcases cases_ im with ⟨s', t', h'⟩ | ⟨s', h'⟩ | h
    · exfalso
      unfold geq at h2
      rw [ord_eq, Format.order, h'] at h2
      simp [Datum.order] at h2
    · exfalso
      obtain ⟨mA, pA, hr, _, _⟩ := hA
      unfold geq at h2
      unfold leN at h3
      rw [ord_eq, Format.order, h', hr] at h2
      rw [ord_eq, Format.order, h', hn] at h3
      cases s' <;> simp [Datum.order] at h2 h3
    · exact h
  obtain ⟨t, B, hB⟩ := him
  rw [geq_num hB hA] at h2
  have h2 := of_decide_eq_true h2
  have ha : Fl.sg s A = (A : Int) := by
    cases s
    · rfl
    · rw [hs rfl]; rfl
  rw [ha] at h2
  have ht : t = true → B = 0 := by
    intro e
    subst e
    simp [Fl.sg] at h2
    omega
  have hb : Fl.sg t B = (B : Int) := by
    cases t
    · rfl
    · rw [ht rfl]; rfl
  rw [hb] at h2
  refine ⟨(ge0_num hB).2 ht, (leN_num hA hs).2 ?_⟩
  have := (leN_num hB ht).1 h3
  generalize never * S = M at *
  omega
/- what max and min make of a number from 0 to Never -/
def mx (x : Nat) : Nat := if ord x 0 = some .gt then x else if (double.read x).neg then 0 else x
def mn (x : Nat) : Nat := if ord x 4845873199050653696 = some .lt then x else if (double.read x).neg then x else 4845873199050653696
theorem run_mx {x : Nat} (h : ge0 x = true) (ts : Array TypeId) (t : TypeId) (w : World) : (Builtin.max_ ts t #[.float .f64 x, .float .f64 0]).run Try.prog w = .ok (.float .f64 (mx x)) w := by
  have h' : FloatKind.f64.format.order x 0 = some .gt ∨ FloatKind.f64.format.order x 0 = some .eq := by simpa [ge0] using h
  have hd : FloatKind.f64.decode x = double.read x := rfl
  unfold mx
  rcases h' with e | e
  · rw [if_pos e]
    simp [Builtin.max_, Builtin.max2, e]
  · rw [if_neg (by rw [ord, e]; simp)]
    simp [Builtin.max_, Builtin.max2, e, hd]
theorem run_mn {x : Nat} (h : leN x = true) (ts : Array TypeId) (t : TypeId) (w : World) : (Builtin.min_ ts t #[.float .f64 x, .float .f64 4845873199050653696]).run Try.prog w = .ok (.float .f64 (mn x)) w := by
  have h' : FloatKind.f64.format.order x 4845873199050653696 = some .lt ∨ FloatKind.f64.format.order x 4845873199050653696 = some .eq := by simpa [leN] using h
  have hd : FloatKind.f64.decode x = double.read x := rfl
  unfold mn
  rcases h' with e | e
  · rw [if_pos e]
    simp [Builtin.min_, Builtin.min2, e]
  · rw [if_neg (by rw [ord, e]; simp)]
    simp [Builtin.min_, Builtin.min2, e, hd]
theorem num_neg {x A : Nat} {s : Bool} (h : Num x s A) : (double.read x).neg = s := by
  obtain ⟨m, p, h, _⟩ := h
  rw [h]; rfl
theorem mx_num {x A : Nat} {s : Bool} (h : Num x s A) (hs : s = true → A = 0) : ∃ t, Num (mx x) t A ∧ (t = true → A = 0) := by
  have e := order_num h zero_num
  unfold mx
  rw [num_neg h]
  split
  · exact ⟨s, h, hs⟩
  · cases s
    · exact ⟨false, h, hs⟩
    · rw [hs rfl]
      exact ⟨false, zero_num, fun e => by cases e⟩
theorem mn_num {x A : Nat} {s : Bool} (h : Num x s A) (hs : s = true → A = 0) (hl : leN x = true) : ∃ t, Num (mn x) t A ∧ (t = true → A = 0) := by
  unfold mn
  rw [num_neg h]
  split
  · exact ⟨s, h, hs⟩
  · rename_i hne
    cases s
    · have hA : A = never * S := by
        have e := order_num h never_num
        have h' : ord x 4845873199050653696 = some .lt ∨ ord x 4845873199050653696 = some .eq := by simpa [leN] using hl
        rcases h' with k | k
        · exact absurd k hne
        · rw [ord_eq, e] at k
          have k := Option.some.inj k
          have := Int.compare_eq_eq.1 k
          unfold Fl.sg at this
          generalize never * S = M at *
          simp at this
          omega
      rw [hA]
      exact ⟨false, never_num, fun e => by cases e⟩
    · exact ⟨true, h, hs⟩
def fl (x : Nat) : Nat := (((double.read x).toInt .zero).getD 0).toNat
theorem sg_pos {s : Bool} {A : Nat} (hs : s = true → A = 0) : Fl.sg s A = (A : Int) := by
  cases s
  · rfl
  · rw [hs rfl]; rfl
theorem fl_num {x A : Nat} {s : Bool} (h : Num x s A) (hs : s = true → A = 0) : fl x = A / S := by
  unfold fl
  rw [toInt_num h, sg_pos (fun e => by rw [hs e, Nat.zero_div])]
  rfl
theorem clamp {x : Nat} (h0 : ge0 x = true) (h1 : leN x = true) : leN (mx x) = true ∧ floatToIntVal .f64 (mn (mx x)) .i64 = some (fl x : Int) ∧ (FloatKind.f64.format.order (floatOfInt .f64 ((fl x : Nat) : Int)) x == some .eq) = (prt x).isSome := by
  obtain ⟨s, A, hN⟩ := num_of_ge0 h0 h1
  have hs := (ge0_num hN).1 h0
  have hb := (leN_num hN hs).1 h1
  have hq : A / S ≤ never := (Nat.div_le_iff_le_mul_add_pred S_pos).2 (by rw [Nat.mul_comm]; omega)
  obtain ⟨t, h2, ht⟩ := mx_num hN hs
  have hl := (leN_num h2 ht).2 hb
  obtain ⟨u, h3, hu⟩ := mn_num h2 ht hl
  refine ⟨hl, ?_, ?_⟩
  · have e : (FloatKind.f64.decode (mn (mx x))).toInt .zero = some ((A / S : Nat) : Int) := by
      show (double.read (mn (mx x))).toInt .zero = _
      rw [toInt_num h3, sg_pos (fun e => by rw [hu e, Nat.zero_div])]
    unfold floatToIntVal
    rw [e, fl_num hN hs]
    have a : IntKind.i64.min ≤ ((A / S : Nat) : Int) ∧ ((A / S : Nat) : Int) ≤ IntKind.i64.max := by
      have e1 : IntKind.i64.min = -9223372036854775808 := by decide
      have e2 : IntKind.i64.max = 9223372036854775807 := by decide
      unfold never at hq
      generalize A / S = Q at *
      omega
    dsimp only
    rw [if_pos a]
  · rw [fl_num hN hs, floatOfInt_nat _ (Int.natCast_nonneg _), Int.toNat_natCast]
    have e := order_num (nearest_num false _ hq) hN
    rw [sg_pos hs] at e
    rw [show FloatKind.f64.format.order (double.nearest false (A / S) 0) x = double.order (double.nearest false (A / S) 0) x from rfl, e, Bool.eq_iff_iff, whole_iff]
    have hT := isT_num hN hb
    constructor
    · intro k
      refine ⟨h0, h1, hT.2 ?_⟩
      have k : compare (Fl.sg false (A / S * S)) (A : Int) = .eq := by simpa using k
      have := Int.compare_eq_eq.1 k
      unfold Fl.sg at this
      generalize A / S * S = M at *
      simp at this
      omega
    · rintro ⟨_, _, k⟩
      have k := hT.1 k
      have : compare (Fl.sg false (A / S * S)) (A : Int) = .eq := Int.compare_eq_eq.2 (by
        unfold Fl.sg
        generalize A / S * S = M at *
        simp
        omega)
      rw [this]; rfl
theorem conv_cl {x : Nat} (h0 : ge0 x = true) (h1 : leN x = true) (w : World) : (convert 39 2 (.float .f64 (mn (mx x)))).run Try.prog w = .ok (.int .i64 ((fl x : Nat) : Int)) w :=
  run_convert_float_int w 39 2 .f64 .i64 _ _ (by rw [Try.underlying39]; rfl) Try.underlying2 (clamp h0 h1).2.1
set_option maxHeartbeats 1000000 in
set_option maxRecDepth 100000 in
theorem wrong_a (re im : Nat) (w : World) (g1 : (FloatKind.f64.format.order re 0 == some .gt || FloatKind.f64.format.order re 0 == some .eq) = false)
    (o0 : FloatKind.f64.format.order 0 0 = some .eq)
    (SN : Hid (spn re im = none)) :
    Calls Try.prog 4 #[.float .f64 re, .float .f64 im] w fun e w' => e = .returned (.bool true) ∧ Below w.heap.size w w' := by
  go_enter Try.func4, Try.ntmps4
  go_wp2_with fail
  refine (alive_any _).mono ?_
  rintro e w' ⟨rfl, rfl⟩
  go_wp2_with fail
  refine (right_at _ _ _ _ SN.out).mono ?_
  rintro e w' ⟨rfl, rfl⟩
  go_wp2_with fail
  refine (join_at _ _ _ _ _ _ _ SN.out s12).mono ?_
  rintro e w' ⟨rfl, rfl⟩
  rw [show ans (jn none (some (1, 2))) = .tuple #[.complex .f64 0 0, .bool false] from rfl]
  go_wp2_with fail
  refine (move_at _ _ _ _ _ SN.out).mono ?_
  rintro e w' ⟨rfl, rfl⟩
  rw [show ans (mv none 0) = .tuple #[.complex .f64 0 0, .bool false] from rfl]
  go_wp2_with fail
  refine (begin_at _ _ _ _ SN.out).mono ?_
  rintro e w' ⟨rfl, rfl⟩
  rw [show ((bg none : Nat) : Int) = 0 from rfl]
  go_wp2_with fail
  refine (end_at _ _ _ _ SN.out).mono ?_
  rintro e w' ⟨rfl, rfl⟩
  rw [show ((en none : Nat) : Int) = 0 from rfl]
  go_wp2_with fail
  refine (before_val _ _ _ _ _ _ false _ SN.out s1e6 rfl).mono ?_
  rintro e w' ⟨rfl, rfl⟩
  go_wp2_with fail
  refine (before_val _ _ _ _ _ _ false _ s01 SN.out rfl).mono ?_
  rintro e w' ⟨rfl, rfl⟩
  go_wp2_with fail
  refine (meet_val _ _ _ _ _ _ false _ SN.out s12 rfl).mono ?_
  rintro e w' ⟨rfl, rfl⟩
  go_wp2
  go_ret
  exact ⟨rfl, Below.refl _ _⟩
set_option maxHeartbeats 1000000 in
set_option maxRecDepth 100000 in
theorem wrong_b (re im : Nat) (w : World) (g1 : (FloatKind.f64.format.order re 0 == some .gt || FloatKind.f64.format.order re 0 == some .eq) = true)
    (g2 : (FloatKind.f64.format.order im re == some .gt || FloatKind.f64.format.order im re == some .eq) = false)
    (o0 : FloatKind.f64.format.order 0 0 = some .eq)
    (SN : Hid (spn re im = none)) :
    Calls Try.prog 4 #[.float .f64 re, .float .f64 im] w fun e w' => e = .returned (.bool true) ∧ Below w.heap.size w w' := by
  go_enter Try.func4, Try.ntmps4
  go_wp2_with fail
  refine (alive_any _).mono ?_
  rintro e w' ⟨rfl, rfl⟩
  go_wp2_with fail
  refine (right_at _ _ _ _ SN.out).mono ?_
  rintro e w' ⟨rfl, rfl⟩
  go_wp2_with fail
  refine (join_at _ _ _ _ _ _ _ SN.out s12).mono ?_
  rintro e w' ⟨rfl, rfl⟩
  rw [show ans (jn none (some (1, 2))) = .tuple #[.complex .f64 0 0, .bool false] from rfl]
  go_wp2_with fail
  refine (move_at _ _ _ _ _ SN.out).mono ?_
  rintro e w' ⟨rfl, rfl⟩
  rw [show ans (mv none 0) = .tuple #[.complex .f64 0 0, .bool false] from rfl]
  go_wp2_with fail
  refine (begin_at _ _ _ _ SN.out).mono ?_
  rintro e w' ⟨rfl, rfl⟩
  rw [show ((bg none : Nat) : Int) = 0 from rfl]
  go_wp2_with fail
  refine (end_at _ _ _ _ SN.out).mono ?_
  rintro e w' ⟨rfl, rfl⟩
  rw [show ((en none : Nat) : Int) = 0 from rfl]
  go_wp2_with fail
  refine (before_val _ _ _ _ _ _ false _ SN.out s1e6 rfl).mono ?_
  rintro e w' ⟨rfl, rfl⟩
  go_wp2_with fail
  refine (before_val _ _ _ _ _ _ false _ s01 SN.out rfl).mono ?_
  rintro e w' ⟨rfl, rfl⟩
  go_wp2_with fail
  refine (meet_val _ _ _ _ _ _ false _ SN.out s12 rfl).mono ?_
  rintro e w' ⟨rfl, rfl⟩
  go_wp2
  go_ret
  exact ⟨rfl, Below.refl _ _⟩
set_option maxHeartbeats 1000000 in
set_option maxRecDepth 100000 in
theorem wrong_c (re im : Nat) (w : World) (g1 : (FloatKind.f64.format.order re 0 == some .gt || FloatKind.f64.format.order re 0 == some .eq) = true)
    (g2 : (FloatKind.f64.format.order im re == some .gt || FloatKind.f64.format.order im re == some .eq) = true)
    (g3 : (FloatKind.f64.format.order im 4845873199050653696 == some .lt || FloatKind.f64.format.order im 4845873199050653696 == some .eq) = false)
    (o0 : FloatKind.f64.format.order 0 0 = some .eq)
    (SN : Hid (spn re im = none)) :
    Calls Try.prog 4 #[.float .f64 re, .float .f64 im] w fun e w' => e = .returned (.bool true) ∧ Below w.heap.size w w' := by
  go_enter Try.func4, Try.ntmps4
  go_wp2_with fail
  refine (alive_any _).mono ?_
  rintro e w' ⟨rfl, rfl⟩
  go_wp2_with fail
  refine (right_at _ _ _ _ SN.out).mono ?_
  rintro e w' ⟨rfl, rfl⟩
  go_wp2_with fail
  refine (join_at _ _ _ _ _ _ _ SN.out s12).mono ?_
  rintro e w' ⟨rfl, rfl⟩
  rw [show ans (jn none (some (1, 2))) = .tuple #[.complex .f64 0 0, .bool false] from rfl]
  go_wp2_with fail
  refine (move_at _ _ _ _ _ SN.out).mono ?_
  rintro e w' ⟨rfl, rfl⟩
  rw [show ans (mv none 0) = .tuple #[.complex .f64 0 0, .bool false] from rfl]
  go_wp2_with fail
  refine (begin_at _ _ _ _ SN.out).mono ?_
  rintro e w' ⟨rfl, rfl⟩
  rw [show ((bg none : Nat) : Int) = 0 from rfl]
  go_wp2_with fail
  refine (end_at _ _ _ _ SN.out).mono ?_
  rintro e w' ⟨rfl, rfl⟩
  rw [show ((en none : Nat) : Int) = 0 from rfl]
  go_wp2_with fail
  refine (before_val _ _ _ _ _ _ false _ SN.out s1e6 rfl).mono ?_
  rintro e w' ⟨rfl, rfl⟩
  go_wp2_with fail
  refine (before_val _ _ _ _ _ _ false _ s01 SN.out rfl).mono ?_
  rintro e w' ⟨rfl, rfl⟩
  go_wp2_with fail
  refine (meet_val _ _ _ _ _ _ false _ SN.out s12 rfl).mono ?_
  rintro e w' ⟨rfl, rfl⟩
  go_wp2
  go_ret
  exact ⟨rfl, Below.refl _ _⟩
set_option maxHeartbeats 1000000 in
set_option maxRecDepth 100000 in
theorem wrong_d (re im : Nat) (w : World) (g1 : (FloatKind.f64.format.order re 0 == some .gt || FloatKind.f64.format.order re 0 == some .eq) = true)
    (g2 : (FloatKind.f64.format.order im re == some .gt || FloatKind.f64.format.order im re == some .eq) = true)
    (g3 : (FloatKind.f64.format.order im 4845873199050653696 == some .lt || FloatKind.f64.format.order im 4845873199050653696 == some .eq) = true)
    (m0 : ∀ (ts : Array TypeId) (t : TypeId) (W : World), (Builtin.max_ ts t #[.float .f64 re, .float .f64 0]).run Try.prog W = .ok (.float .f64 (mx re)) W)
    (k0 : ∀ (ts : Array TypeId) (t : TypeId) (W : World), (Builtin.min_ ts t #[.float .f64 (mx re), .float .f64 4845873199050653696]).run Try.prog W = .ok (.float .f64 (mn (mx re))) W)
    (c0 : ∀ W : World, (convert 39 2 (.float .f64 (mn (mx re)))).run Try.prog W = .ok (.int .i64 ((fl re : Nat) : Int)) W)
    (q0 : (FloatKind.f64.format.order (floatOfInt .f64 ((fl re : Nat) : Int)) re == some .eq) = false)
    (o0 : FloatKind.f64.format.order 0 0 = some .eq)
    (SN : Hid (spn re im = none)) :
    Calls Try.prog 4 #[.float .f64 re, .float .f64 im] w fun e w' => e = .returned (.bool true) ∧ Below w.heap.size w w' := by
  go_enter Try.func4, Try.ntmps4
  go_wp2_with fail
  refine (alive_any _).mono ?_
  rintro e w' ⟨rfl, rfl⟩
  go_wp2_with fail
  refine (right_at _ _ _ _ SN.out).mono ?_
  rintro e w' ⟨rfl, rfl⟩
  go_wp2_with fail
  refine (join_at _ _ _ _ _ _ _ SN.out s12).mono ?_
  rintro e w' ⟨rfl, rfl⟩
  rw [show ans (jn none (some (1, 2))) = .tuple #[.complex .f64 0 0, .bool false] from rfl]
  go_wp2_with fail
  refine (move_at _ _ _ _ _ SN.out).mono ?_
  rintro e w' ⟨rfl, rfl⟩
  rw [show ans (mv none 0) = .tuple #[.complex .f64 0 0, .bool false] from rfl]
  go_wp2_with fail
  refine (begin_at _ _ _ _ SN.out).mono ?_
  rintro e w' ⟨rfl, rfl⟩
  rw [show ((bg none : Nat) : Int) = 0 from rfl]
  go_wp2_with fail
  refine (end_at _ _ _ _ SN.out).mono ?_
  rintro e w' ⟨rfl, rfl⟩
  rw [show ((en none : Nat) : Int) = 0 from rfl]
  go_wp2_with fail
  refine (before_val _ _ _ _ _ _ false _ SN.out s1e6 rfl).mono ?_
  rintro e w' ⟨rfl, rfl⟩
  go_wp2_with fail
  refine (before_val _ _ _ _ _ _ false _ s01 SN.out rfl).mono ?_
  rintro e w' ⟨rfl, rfl⟩
  go_wp2_with fail
  refine (meet_val _ _ _ _ _ _ false _ SN.out s12 rfl).mono ?_
  rintro e w' ⟨rfl, rfl⟩
  go_wp2
  go_ret
  exact ⟨rfl, Below.refl _ _⟩
set_option maxHeartbeats 1000000 in
set_option maxRecDepth 100000 in
theorem wrong_e (re im : Nat) (w : World) (g1 : (FloatKind.f64.format.order re 0 == some .gt || FloatKind.f64.format.order re 0 == some .eq) = true)
    (g2 : (FloatKind.f64.format.order im re == some .gt || FloatKind.f64.format.order im re == some .eq) = true)
    (g3 : (FloatKind.f64.format.order im 4845873199050653696 == some .lt || FloatKind.f64.format.order im 4845873199050653696 == some .eq) = true)
    (m0 : ∀ (ts : Array TypeId) (t : TypeId) (W : World), (Builtin.max_ ts t #[.float .f64 re, .float .f64 0]).run Try.prog W = .ok (.float .f64 (mx re)) W)
    (k0 : ∀ (ts : Array TypeId) (t : TypeId) (W : World), (Builtin.min_ ts t #[.float .f64 (mx re), .float .f64 4845873199050653696]).run Try.prog W = .ok (.float .f64 (mn (mx re))) W)
    (c0 : ∀ W : World, (convert 39 2 (.float .f64 (mn (mx re)))).run Try.prog W = .ok (.int .i64 ((fl re : Nat) : Int)) W)
    (q0 : (FloatKind.f64.format.order (floatOfInt .f64 ((fl re : Nat) : Int)) re == some .eq) = true)
    (m1 : ∀ (ts : Array TypeId) (t : TypeId) (W : World), (Builtin.max_ ts t #[.float .f64 im, .float .f64 0]).run Try.prog W = .ok (.float .f64 (mx im)) W)
    (k1 : ∀ (ts : Array TypeId) (t : TypeId) (W : World), (Builtin.min_ ts t #[.float .f64 (mx im), .float .f64 4845873199050653696]).run Try.prog W = .ok (.float .f64 (mn (mx im))) W)
    (c1 : ∀ W : World, (convert 39 2 (.float .f64 (mn (mx im)))).run Try.prog W = .ok (.int .i64 ((fl im : Nat) : Int)) W)
    (q1 : (FloatKind.f64.format.order (floatOfInt .f64 ((fl im : Nat) : Int)) im == some .eq) = false)
    (o0 : FloatKind.f64.format.order 0 0 = some .eq)
    (SN : Hid (spn re im = none)) :
    Calls Try.prog 4 #[.float .f64 re, .float .f64 im] w fun e w' => e = .returned (.bool true) ∧ Below w.heap.size w w' := by
  go_enter Try.func4, Try.ntmps4
  go_wp2_with fail
  refine (alive_any _).mono ?_
  rintro e w' ⟨rfl, rfl⟩
  go_wp2_with fail
  refine (right_at _ _ _ _ SN.out).mono ?_
  rintro e w' ⟨rfl, rfl⟩
  go_wp2_with fail
  refine (join_at _ _ _ _ _ _ _ SN.out s12).mono ?_
  rintro e w' ⟨rfl, rfl⟩
  rw [show ans (jn none (some (1, 2))) = .tuple #[.complex .f64 0 0, .bool false] from rfl]
  go_wp2_with fail
  refine (move_at _ _ _ _ _ SN.out).mono ?_
  rintro e w' ⟨rfl, rfl⟩
  rw [show ans (mv none 0) = .tuple #[.complex .f64 0 0, .bool false] from rfl]
  go_wp2_with fail
  refine (begin_at _ _ _ _ SN.out).mono ?_
  rintro e w' ⟨rfl, rfl⟩
  rw [show ((bg none : Nat) : Int) = 0 from rfl]
  go_wp2_with fail
  refine (end_at _ _ _ _ SN.out).mono ?_
  rintro e w' ⟨rfl, rfl⟩
  rw [show ((en none : Nat) : Int) = 0 from rfl]
  go_wp2_with fail
  refine (before_val _ _ _ _ _ _ false _ SN.out s1e6 rfl).mono ?_
  rintro e w' ⟨rfl, rfl⟩
  go_wp2_with fail
  refine (before_val _ _ _ _ _ _ false _ s01 SN.out rfl).mono ?_
  rintro e w' ⟨rfl, rfl⟩
  go_wp2_with fail
  refine (meet_val _ _ _ _ _ _ false _ SN.out s12 rfl).mono ?_
  rintro e w' ⟨rfl, rfl⟩
  go_wp2
  go_ret
  exact ⟨rfl, Below.refl _ _⟩
set_option maxHeartbeats 1000000 in
set_option maxRecDepth 100000 in
theorem wrong_f (re im : Nat) (w : World) (g1 : (FloatKind.f64.format.order re 0 == some .gt || FloatKind.f64.format.order re 0 == some .eq) = true)
    (g2 : (FloatKind.f64.format.order im re == some .gt || FloatKind.f64.format.order im re == some .eq) = true)
    (g3 : (FloatKind.f64.format.order im 4845873199050653696 == some .lt || FloatKind.f64.format.order im 4845873199050653696 == some .eq) = true)
    (m0 : ∀ (ts : Array TypeId) (t : TypeId) (W : World), (Builtin.max_ ts t #[.float .f64 re, .float .f64 0]).run Try.prog W = .ok (.float .f64 (mx re)) W)
    (k0 : ∀ (ts : Array TypeId) (t : TypeId) (W : World), (Builtin.min_ ts t #[.float .f64 (mx re), .float .f64 4845873199050653696]).run Try.prog W = .ok (.float .f64 (mn (mx re))) W)
    (c0 : ∀ W : World, (convert 39 2 (.float .f64 (mn (mx re)))).run Try.prog W = .ok (.int .i64 ((fl re : Nat) : Int)) W)
    (q0 : (FloatKind.f64.format.order (floatOfInt .f64 ((fl re : Nat) : Int)) re == some .eq) = true)
    (m1 : ∀ (ts : Array TypeId) (t : TypeId) (W : World), (Builtin.max_ ts t #[.float .f64 im, .float .f64 0]).run Try.prog W = .ok (.float .f64 (mx im)) W)
    (k1 : ∀ (ts : Array TypeId) (t : TypeId) (W : World), (Builtin.min_ ts t #[.float .f64 (mx im), .float .f64 4845873199050653696]).run Try.prog W = .ok (.float .f64 (mn (mx im))) W)
    (c1 : ∀ W : World, (convert 39 2 (.float .f64 (mn (mx im)))).run Try.prog W = .ok (.int .i64 ((fl im : Nat) : Int)) W)
    (q1 : (FloatKind.f64.format.order (floatOfInt .f64 ((fl im : Nat) : Int)) im == some .eq) = true)
    (p : Nat × Nat) (SS : Hid (spn re im = some p)) (M : Hid (mts (some p) (some p) = true)) (N : Hid (bf (some p) (some p) = false)) :
    Calls Try.prog 4 #[.float .f64 re, .float .f64 im] w fun e w' => e = .returned (.bool true) ∧ Below w.heap.size w w' := by
  go_enter Try.func4, Try.ntmps4
  go_wp2_with fail
  refine (alive_any _).mono ?_
  rintro e w' ⟨rfl, rfl⟩
  go_wp2_with fail
  refine (right_at _ _ _ _ SS.out).mono ?_
  rintro e w' ⟨rfl, rfl⟩
  go_wp2_with fail
  refine (meet_val _ _ _ _ _ _ true _ SS.out SS.out M.out).mono ?_
  rintro e w' ⟨rfl, rfl⟩
  go_wp2_with fail
  refine (before_val _ _ _ _ _ _ false _ SS.out SS.out N.out).mono ?_
  rintro e w' ⟨rfl, rfl⟩
  go_wp2
  go_ret
  exact ⟨rfl, Below.refl _ _⟩
theorem self_meets (p : Nat × Nat) (h : p.1 ≤ p.2) : mts (some p) (some p) = true ∧ bf (some p) (some p) = false := by
  have e : bf (some p) (some p) = false := decide_eq_false (show ¬ p.2 < p.1 by omega)
  refine ⟨?_, e⟩
  show (!bf (some p) (some p) && !bf (some p) (some p)) = true
  rw [e]; rfl
theorem prt_no {x : Nat} (h : (prt x).isSome = false) : prt x = none := by
  cases e : prt x with
  | none => rfl
  | some n => rw [e] at h; cases h
theorem spn_no1 {re im : Nat} (h : (prt re).isSome = false) : spn re im = none := by unfold spn; rw [prt_no h]
theorem spn_no2 {re im : Nat} (h : (prt im).isSome = false) : spn re im = none := by
  unfold spn; rw [prt_no h]; split
  · rename_i h2; cases h2
  · rfl
theorem geq_part {x y a b : Nat} (hx : prt x = some a) (hy : prt y = some b) : geq x y = decide (b ≤ a) := by
  unfold geq
  rw [ord_eq, order_part (part_iff.1 hx) (part_iff.1 hy)]
  rcases Nat.lt_trichotomy a b with h | h | h
  · rw [Int.compare_eq_lt.2 (by omega)]; simp; omega
  · rw [Int.compare_eq_eq.2 (by omega)]; simp; omega
  · rw [Int.compare_eq_gt.2 (by omega)]; simp; omega
theorem spanWrong_walk (re im : Nat) (w : World) :
    Calls Try.prog 4 #[.float .f64 re, .float .f64 im] w fun e w' => e = .returned (.bool true) ∧ Below w.heap.size w w' := by
  have o0 := ord_self part_nought
  have no : ∀ x, ¬ (ge0 x = true ∧ leN x = true ∧ isT x = true) → (prt x).isSome = false := by
    intro x h
    cases e : (prt x).isSome
    · rfl
    · exact absurd ((whole_iff x).1 e) h
  cases h1 : ge0 re
  · exact wrong_a re im w h1 o0 (spn_no1 (no re (by rw [h1]; simp)))
  · cases h2 : geq im re
    · refine wrong_b re im w h1 h2 o0 ?_
      cases e1 : prt re with
      | none => exact Lib.hid (spn_no1 (by rw [e1]; rfl))
      | some b =>
        cases e2 : prt im with
        | none => exact Lib.hid (spn_no2 (by rw [e2]; rfl))
        | some e =>
          rw [geq_part e2 e1] at h2
          have h2 := of_decide_eq_false h2
          apply Lib.hid
          unfold spn
          rw [e1, e2]
          exact if_neg h2
    · cases h3 : leN im
      · exact wrong_c re im w h1 h2 h3 o0 (spn_no2 (no im (by rw [h3]; simp)))
      · obtain ⟨h4, h5⟩ := ranges h1 h2 h3
        obtain ⟨l0, _, q0⟩ := clamp h1 h5
        obtain ⟨l1, _, q1⟩ := clamp h4 h3
        cases e1 : (prt re).isSome
        · exact wrong_d re im w h1 h2 h3 (fun ts t W => run_mx h1 ts t W) (fun ts t W => run_mn l0 ts t W) (fun W => conv_cl h1 h5 W) (q0.trans e1) o0 (spn_no1 e1)
        · cases e2 : (prt im).isSome
          · exact wrong_e re im w h1 h2 h3 (fun ts t W => run_mx h1 ts t W) (fun ts t W => run_mn l0 ts t W) (fun W => conv_cl h1 h5 W) (q0.trans e1) (fun ts t W => run_mx h4 ts t W) (fun ts t W => run_mn l1 ts t W) (fun W => conv_cl h4 h3 W) (q1.trans e2) o0 (spn_no2 e2)
          · obtain ⟨b, f1⟩ := Option.isSome_iff_exists.1 e1
            obtain ⟨e, f2⟩ := Option.isSome_iff_exists.1 e2
            rw [geq_part f2 f1] at h2
            have hbe := of_decide_eq_true h2
            have hs : spn re im = some (b, e) := spn_some.2 ⟨f1, f2, hbe⟩
            obtain ⟨M, N⟩ := self_meets (b, e) hbe
            have h2' : geq im re = true := by rw [geq_part f2 f1]; exact h2
            exact wrong_f re im w h1 h2' h3 (fun ts t W => run_mx h1 ts t W) (fun ts t W => run_mn l0 ts t W) (fun W => conv_cl h1 h5 W) (q0.trans e1) (fun ts t W => run_mx h4 ts t W) (fun ts t W => run_mn l1 ts t W) (fun W => conv_cl h4 h3 W) (q1.trans e2) _ hs M N
end Go.Proofs.Ytadendkkcdaleaa
