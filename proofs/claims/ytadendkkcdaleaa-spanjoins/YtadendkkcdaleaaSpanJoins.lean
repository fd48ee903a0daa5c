/-
  The walk of SpanJoins: for any three pairs of whole numbers it answers true; nothing that was there is changed.
-/
import Derived.Test.YtadendkkcdaleaaSpanOrder
namespace Go.Proofs.Ytadendkkcdaleaa
open Go.RowKit Fl
def both (p q : Nat × Nat) : Nat × Nat := (min p.1 q.1, max p.2 q.2)
theorem jn_both (p q : Nat × Nat) : jn (some p) (some q) = some (both p q) := rfl
theorem both_comm (p q : Nat × Nat) : both q p = both p q := by unfold both; rw [Nat.min_comm, Nat.max_comm]
theorem both_good {p q : Nat × Nat} (hp : Fl.Good (some p)) (hq : Fl.Good (some q)) : Fl.Good (some (both p q)) := jn_both p q ▸ jn_good hp hq
theorem both_fore (p q r : Nat × Nat) : bf (some (both p q)) (some r) = (bf (some p) (some r) && bf (some q) (some r)) := by
  show decide (max p.2 q.2 < r.1) = (decide (p.2 < r.1) && decide (q.2 < r.1))
  rw [Bool.eq_iff_iff]; simp; omega
theorem both_hind (p q r : Nat × Nat) : bf (some r) (some (both p q)) = (bf (some r) (some p) && bf (some r) (some q)) := by
  show decide (r.2 < min p.1 q.1) = (decide (r.2 < p.1) && decide (r.2 < q.1))
  rw [Bool.eq_iff_iff]; simp; omega
theorem both_meet (p q : Nat × Nat) (hp : p.1 ≤ p.2) : mts (some (both p q)) (some p) = true := by
  show (!decide (max p.2 q.2 < p.1) && !decide (p.2 < min p.1 q.1)) = true
  simp; omega
theorem fore_no {p q r : Nat × Nat} (h : bf (some p) (some r) = false) : bf (some (both p q)) (some r) = false := by rw [both_fore, h]; rfl
theorem fore_yes {p q r : Nat × Nat} (h : bf (some p) (some r) = true) : bf (some (both p q)) (some r) = bf (some q) (some r) := by rw [both_fore, h]; rfl
theorem hind_no {p q r : Nat × Nat} (h : bf (some r) (some p) = false) : bf (some r) (some (both p q)) = false := by rw [both_hind, h]; rfl
theorem hind_yes {p q r : Nat × Nat} (h : bf (some r) (some p) = true) : bf (some r) (some (both p q)) = bf (some r) (some q) := by rw [both_hind, h]; rfl
set_option maxHeartbeats 1000000 in
set_option maxRecDepth 100000 in
theorem joins_a (a b c d f g : Int) (p q r m : Nat × Nat) (w : World) (H1 : Hid (mk a b = some p)) (H2 : Hid (mk c d = some q)) (H3 : Hid (mk f g = some r))
    (S1 : Hid (spn (re_ (some p)) (im_ (some p)) = some p)) (S2 : Hid (spn (re_ (some q)) (im_ (some q)) = some q)) (S3 : Hid (spn (re_ (some r)) (im_ (some r)) = some r)) (SM : Hid (spn (re_ (some m)) (im_ (some m)) = some m))
    (J1 : Hid (jn (some p) (some q) = some m)) (J2 : Hid (jn (some q) (some p) = some m)) (M1 : Hid (mts (some m) (some p) = true)) (M2 : Hid (mts (some m) (some q) = true))
    (o1 : FloatKind.f64.format.order (re_ (some m)) (re_ (some m)) = some .eq) (o2 : FloatKind.f64.format.order (im_ (some m)) (im_ (some m)) = some .eq)
    (A0 : Hid (bf (some m) (some r) = false)) (A1 : Hid (bf (some p) (some r) = false)) (C0 : Hid (bf (some r) (some m) = false)) (C1 : Hid (bf (some r) (some p) = false)) :
    Calls Try.prog 6 #[.agg #[.int .i64 a, .int .i64 b], .agg #[.int .i64 c, .int .i64 d], .agg #[.int .i64 f, .int .i64 g]] w fun e w' => e = .returned (.bool true) ∧ Below w.heap.size w w' := by
  go_enter Try.func6, Try.ntmps6
  go_wp2_with fail
  refine (alive_any _).mono ?_
  rintro e w' ⟨rfl, rfl⟩
  go_wp2_with fail
  refine (two_at _ _ _ _ H1.out).mono ?_
  rintro e w' ⟨rfl, rfl⟩
  unfold ans
  go_wp2_with fail
  refine (two_at _ _ _ _ H2.out).mono ?_
  rintro e w' ⟨rfl, rfl⟩
  unfold ans
  go_wp2_with fail
  refine (two_at _ _ _ _ H3.out).mono ?_
  rintro e w' ⟨rfl, rfl⟩
  unfold ans
  go_wp2_with fail
  refine (join_at _ _ _ _ _ _ _ S1.out S2.out).mono ?_
  rintro e w' ⟨rfl, rfl⟩
  rw [J1.out]
  unfold ans
  go_wp2_with fail
  refine (join_at _ _ _ _ _ _ _ S2.out S1.out).mono ?_
  rintro e w' ⟨rfl, rfl⟩
  rw [J2.out]
  unfold ans
  go_wp2_with fail
  refine (meet_val _ _ _ _ _ _ _ _ SM.out S1.out M1.out).mono ?_
  rintro e w' ⟨rfl, rfl⟩
  go_wp2_with fail
  refine (meet_val _ _ _ _ _ _ _ _ SM.out S2.out M2.out).mono ?_
  rintro e w' ⟨rfl, rfl⟩
  go_wp2_with fail
  refine (before_val _ _ _ _ _ _ _ _ SM.out S3.out A0.out).mono ?_
  rintro e w' ⟨rfl, rfl⟩
  go_wp2_with fail
  refine (before_val _ _ _ _ _ _ _ _ S1.out S3.out A1.out).mono ?_
  rintro e w' ⟨rfl, rfl⟩
  go_wp2_with fail
  refine (before_val _ _ _ _ _ _ _ _ S3.out SM.out C0.out).mono ?_
  rintro e w' ⟨rfl, rfl⟩
  go_wp2_with fail
  refine (before_val _ _ _ _ _ _ _ _ S3.out S1.out C1.out).mono ?_
  rintro e w' ⟨rfl, rfl⟩
  go_wp2
  go_ret
  exact ⟨rfl, below6 _ _ _ _ _ _ _⟩
set_option maxHeartbeats 1000000 in
set_option maxRecDepth 100000 in
theorem joins_b (a b c d f g : Int) (p q r m : Nat × Nat) (w : World) (H1 : Hid (mk a b = some p)) (H2 : Hid (mk c d = some q)) (H3 : Hid (mk f g = some r))
    (S1 : Hid (spn (re_ (some p)) (im_ (some p)) = some p)) (S2 : Hid (spn (re_ (some q)) (im_ (some q)) = some q)) (S3 : Hid (spn (re_ (some r)) (im_ (some r)) = some r)) (SM : Hid (spn (re_ (some m)) (im_ (some m)) = some m))
    (J1 : Hid (jn (some p) (some q) = some m)) (J2 : Hid (jn (some q) (some p) = some m)) (M1 : Hid (mts (some m) (some p) = true)) (M2 : Hid (mts (some m) (some q) = true))
    (o1 : FloatKind.f64.format.order (re_ (some m)) (re_ (some m)) = some .eq) (o2 : FloatKind.f64.format.order (im_ (some m)) (im_ (some m)) = some .eq)
    (A0 : Hid (bf (some m) (some r) = false)) (A1 : Hid (bf (some p) (some r) = false)) (C0 : Hid (bf (some r) (some m) = bf (some r) (some q))) (C1 : Hid (bf (some r) (some p) = true)) :
    Calls Try.prog 6 #[.agg #[.int .i64 a, .int .i64 b], .agg #[.int .i64 c, .int .i64 d], .agg #[.int .i64 f, .int .i64 g]] w fun e w' => e = .returned (.bool true) ∧ Below w.heap.size w w' := by
  go_enter Try.func6, Try.ntmps6
  go_wp2_with fail
  refine (alive_any _).mono ?_
  rintro e w' ⟨rfl, rfl⟩
  go_wp2_with fail
  refine (two_at _ _ _ _ H1.out).mono ?_
  rintro e w' ⟨rfl, rfl⟩
  unfold ans
  go_wp2_with fail
  refine (two_at _ _ _ _ H2.out).mono ?_
  rintro e w' ⟨rfl, rfl⟩
  unfold ans
  go_wp2_with fail
  refine (two_at _ _ _ _ H3.out).mono ?_
  rintro e w' ⟨rfl, rfl⟩
  unfold ans
  go_wp2_with fail
  refine (join_at _ _ _ _ _ _ _ S1.out S2.out).mono ?_
  rintro e w' ⟨rfl, rfl⟩
  rw [J1.out]
  unfold ans
  go_wp2_with fail
  refine (join_at _ _ _ _ _ _ _ S2.out S1.out).mono ?_
  rintro e w' ⟨rfl, rfl⟩
  rw [J2.out]
  unfold ans
  go_wp2_with fail
  refine (meet_val _ _ _ _ _ _ _ _ SM.out S1.out M1.out).mono ?_
  rintro e w' ⟨rfl, rfl⟩
  go_wp2_with fail
  refine (meet_val _ _ _ _ _ _ _ _ SM.out S2.out M2.out).mono ?_
  rintro e w' ⟨rfl, rfl⟩
  go_wp2_with fail
  refine (before_val _ _ _ _ _ _ _ _ SM.out S3.out A0.out).mono ?_
  rintro e w' ⟨rfl, rfl⟩
  go_wp2_with fail
  refine (before_val _ _ _ _ _ _ _ _ S1.out S3.out A1.out).mono ?_
  rintro e w' ⟨rfl, rfl⟩
  go_wp2_with fail
  refine (before_val _ _ _ _ _ _ _ _ S3.out SM.out C0.out).mono ?_
  rintro e w' ⟨rfl, rfl⟩
  go_wp2_with fail
  refine (before_val _ _ _ _ _ _ _ _ S3.out S1.out C1.out).mono ?_
  rintro e w' ⟨rfl, rfl⟩
  go_wp2_with fail
  refine (before_at _ _ _ _ _ _ _ S3.out S2.out).mono ?_
  rintro e w' ⟨rfl, rfl⟩
  go_wp2
  go_ret
  exact ⟨rfl, below6 _ _ _ _ _ _ _⟩
set_option maxHeartbeats 1000000 in
set_option maxRecDepth 100000 in
theorem joins_c (a b c d f g : Int) (p q r m : Nat × Nat) (w : World) (H1 : Hid (mk a b = some p)) (H2 : Hid (mk c d = some q)) (H3 : Hid (mk f g = some r))
    (S1 : Hid (spn (re_ (some p)) (im_ (some p)) = some p)) (S2 : Hid (spn (re_ (some q)) (im_ (some q)) = some q)) (S3 : Hid (spn (re_ (some r)) (im_ (some r)) = some r)) (SM : Hid (spn (re_ (some m)) (im_ (some m)) = some m))
    (J1 : Hid (jn (some p) (some q) = some m)) (J2 : Hid (jn (some q) (some p) = some m)) (M1 : Hid (mts (some m) (some p) = true)) (M2 : Hid (mts (some m) (some q) = true))
    (o1 : FloatKind.f64.format.order (re_ (some m)) (re_ (some m)) = some .eq) (o2 : FloatKind.f64.format.order (im_ (some m)) (im_ (some m)) = some .eq)
    (A0 : Hid (bf (some m) (some r) = bf (some q) (some r))) (A1 : Hid (bf (some p) (some r) = true)) (C0 : Hid (bf (some r) (some m) = false)) (C1 : Hid (bf (some r) (some p) = false)) :
    Calls Try.prog 6 #[.agg #[.int .i64 a, .int .i64 b], .agg #[.int .i64 c, .int .i64 d], .agg #[.int .i64 f, .int .i64 g]] w fun e w' => e = .returned (.bool true) ∧ Below w.heap.size w w' := by
  go_enter Try.func6, Try.ntmps6
  go_wp2_with fail
  refine (alive_any _).mono ?_
  rintro e w' ⟨rfl, rfl⟩
  go_wp2_with fail
  refine (two_at _ _ _ _ H1.out).mono ?_
  rintro e w' ⟨rfl, rfl⟩
  unfold ans
  go_wp2_with fail
  refine (two_at _ _ _ _ H2.out).mono ?_
  rintro e w' ⟨rfl, rfl⟩
  unfold ans
  go_wp2_with fail
  refine (two_at _ _ _ _ H3.out).mono ?_
  rintro e w' ⟨rfl, rfl⟩
  unfold ans
  go_wp2_with fail
  refine (join_at _ _ _ _ _ _ _ S1.out S2.out).mono ?_
  rintro e w' ⟨rfl, rfl⟩
  rw [J1.out]
  unfold ans
  go_wp2_with fail
  refine (join_at _ _ _ _ _ _ _ S2.out S1.out).mono ?_
  rintro e w' ⟨rfl, rfl⟩
  rw [J2.out]
  unfold ans
  go_wp2_with fail
  refine (meet_val _ _ _ _ _ _ _ _ SM.out S1.out M1.out).mono ?_
  rintro e w' ⟨rfl, rfl⟩
  go_wp2_with fail
  refine (meet_val _ _ _ _ _ _ _ _ SM.out S2.out M2.out).mono ?_
  rintro e w' ⟨rfl, rfl⟩
  go_wp2_with fail
  refine (before_val _ _ _ _ _ _ _ _ SM.out S3.out A0.out).mono ?_
  rintro e w' ⟨rfl, rfl⟩
  go_wp2_with fail
  refine (before_val _ _ _ _ _ _ _ _ S1.out S3.out A1.out).mono ?_
  rintro e w' ⟨rfl, rfl⟩
  go_wp2_with fail
  refine (before_at _ _ _ _ _ _ _ S2.out S3.out).mono ?_
  rintro e w' ⟨rfl, rfl⟩
  go_wp2_with fail
  refine (before_val _ _ _ _ _ _ _ _ S3.out SM.out C0.out).mono ?_
  rintro e w' ⟨rfl, rfl⟩
  go_wp2_with fail
  refine (before_val _ _ _ _ _ _ _ _ S3.out S1.out C1.out).mono ?_
  rintro e w' ⟨rfl, rfl⟩
  go_wp2
  go_ret
  exact ⟨rfl, below6 _ _ _ _ _ _ _⟩
set_option maxHeartbeats 1000000 in
set_option maxRecDepth 100000 in
theorem joins_d (a b c d f g : Int) (p q r m : Nat × Nat) (w : World) (H1 : Hid (mk a b = some p)) (H2 : Hid (mk c d = some q)) (H3 : Hid (mk f g = some r))
    (S1 : Hid (spn (re_ (some p)) (im_ (some p)) = some p)) (S2 : Hid (spn (re_ (some q)) (im_ (some q)) = some q)) (S3 : Hid (spn (re_ (some r)) (im_ (some r)) = some r)) (SM : Hid (spn (re_ (some m)) (im_ (some m)) = some m))
    (J1 : Hid (jn (some p) (some q) = some m)) (J2 : Hid (jn (some q) (some p) = some m)) (M1 : Hid (mts (some m) (some p) = true)) (M2 : Hid (mts (some m) (some q) = true))
    (o1 : FloatKind.f64.format.order (re_ (some m)) (re_ (some m)) = some .eq) (o2 : FloatKind.f64.format.order (im_ (some m)) (im_ (some m)) = some .eq)
    (A0 : Hid (bf (some m) (some r) = bf (some q) (some r))) (A1 : Hid (bf (some p) (some r) = true)) (C0 : Hid (bf (some r) (some m) = bf (some r) (some q))) (C1 : Hid (bf (some r) (some p) = true)) :
    Calls Try.prog 6 #[.agg #[.int .i64 a, .int .i64 b], .agg #[.int .i64 c, .int .i64 d], .agg #[.int .i64 f, .int .i64 g]] w fun e w' => e = .returned (.bool true) ∧ Below w.heap.size w w' := by
  go_enter Try.func6, Try.ntmps6
  go_wp2_with fail
  refine (alive_any _).mono ?_
  rintro e w' ⟨rfl, rfl⟩
  go_wp2_with fail
  refine (two_at _ _ _ _ H1.out).mono ?_
  rintro e w' ⟨rfl, rfl⟩
  unfold ans
  go_wp2_with fail
  refine (two_at _ _ _ _ H2.out).mono ?_
  rintro e w' ⟨rfl, rfl⟩
  unfold ans
  go_wp2_with fail
  refine (two_at _ _ _ _ H3.out).mono ?_
  rintro e w' ⟨rfl, rfl⟩
  unfold ans
  go_wp2_with fail
  refine (join_at _ _ _ _ _ _ _ S1.out S2.out).mono ?_
  rintro e w' ⟨rfl, rfl⟩
  rw [J1.out]
  unfold ans
  go_wp2_with fail
  refine (join_at _ _ _ _ _ _ _ S2.out S1.out).mono ?_
  rintro e w' ⟨rfl, rfl⟩
  rw [J2.out]
  unfold ans
  go_wp2_with fail
  refine (meet_val _ _ _ _ _ _ _ _ SM.out S1.out M1.out).mono ?_
  rintro e w' ⟨rfl, rfl⟩
  go_wp2_with fail
  refine (meet_val _ _ _ _ _ _ _ _ SM.out S2.out M2.out).mono ?_
  rintro e w' ⟨rfl, rfl⟩
  go_wp2_with fail
  refine (before_val _ _ _ _ _ _ _ _ SM.out S3.out A0.out).mono ?_
  rintro e w' ⟨rfl, rfl⟩
  go_wp2_with fail
  refine (before_val _ _ _ _ _ _ _ _ S1.out S3.out A1.out).mono ?_
  rintro e w' ⟨rfl, rfl⟩
  go_wp2_with fail
  refine (before_at _ _ _ _ _ _ _ S2.out S3.out).mono ?_
  rintro e w' ⟨rfl, rfl⟩
  go_wp2_with fail
  refine (before_val _ _ _ _ _ _ _ _ S3.out SM.out C0.out).mono ?_
  rintro e w' ⟨rfl, rfl⟩
  go_wp2_with fail
  refine (before_val _ _ _ _ _ _ _ _ S3.out S1.out C1.out).mono ?_
  rintro e w' ⟨rfl, rfl⟩
  go_wp2_with fail
  refine (before_at _ _ _ _ _ _ _ S3.out S2.out).mono ?_
  rintro e w' ⟨rfl, rfl⟩
  go_wp2
  go_ret
  exact ⟨rfl, below6 _ _ _ _ _ _ _⟩
set_option maxHeartbeats 1000000 in
set_option maxRecDepth 100000 in
theorem spanJoins_walk (a b c d f g : Int) (w : World) :
    Calls Try.prog 6 #[.agg #[.int .i64 a, .int .i64 b], .agg #[.int .i64 c, .int .i64 d], .agg #[.int .i64 f, .int .i64 g]] w fun e w' => e = .returned (.bool true) ∧ Below w.heap.size w w' := by
  have start : ∀ s t u : Sp, mk a b = s → mk c d = t → mk f g = u → (s = none ∨ t = none ∨ u = none) → Calls Try.prog 6 #[.agg #[.int .i64 a, .int .i64 b], .agg #[.int .i64 c, .int .i64 d], .agg #[.int .i64 f, .int .i64 g]] w fun e w' => e = .returned (.bool true) ∧ Below w.heap.size w w' := by
    intro s t u h1 h2 h3 hn
    have H1 := Lib.hid h1
    have H2 := Lib.hid h2
    have H3 := Lib.hid h3
    clear h1 h2 h3
    cases s with
    | none =>
      clear hn
      go_enter Try.func6, Try.ntmps6
      go_wp2_with fail
      refine (alive_any _).mono ?_
      rintro e w' ⟨rfl, rfl⟩
      go_wp2_with fail
      refine (two_at _ _ _ _ H1.out).mono ?_
      rintro e w' ⟨rfl, rfl⟩
      rw [ans_none]
      go_wp2_with fail
      refine (two_any _ _ _).mono ?_
      rintro e w' ⟨rfl, rfl⟩
      unfold ans
      go_wp2_with fail
      refine (two_any _ _ _).mono ?_
      rintro e w' ⟨rfl, rfl⟩
      unfold ans
      go_wp2
      go_ret
      exact ⟨rfl, below6 _ _ _ _ _ _ _⟩
    | some p =>
      cases t with
      | none =>
        clear hn
        go_enter Try.func6, Try.ntmps6
        go_wp2_with fail
        refine (alive_any _).mono ?_
        rintro e w' ⟨rfl, rfl⟩
        go_wp2_with fail
        refine (two_at _ _ _ _ H1.out).mono ?_
        rintro e w' ⟨rfl, rfl⟩
        unfold ans
        go_wp2_with fail
        refine (two_at _ _ _ _ H2.out).mono ?_
        rintro e w' ⟨rfl, rfl⟩
        rw [ans_none]
        go_wp2_with fail
        refine (two_any _ _ _).mono ?_
        rintro e w' ⟨rfl, rfl⟩
        unfold ans
        go_wp2
        go_ret
        exact ⟨rfl, below6 _ _ _ _ _ _ _⟩
      | some q =>
        obtain rfl : u = none := by simpa using hn
        clear hn
        go_enter Try.func6, Try.ntmps6
        go_wp2_with fail
        refine (alive_any _).mono ?_
        rintro e w' ⟨rfl, rfl⟩
        go_wp2_with fail
        refine (two_at _ _ _ _ H1.out).mono ?_
        rintro e w' ⟨rfl, rfl⟩
        unfold ans
        go_wp2_with fail
        refine (two_at _ _ _ _ H2.out).mono ?_
        rintro e w' ⟨rfl, rfl⟩
        unfold ans
        go_wp2_with fail
        refine (two_at _ _ _ _ H3.out).mono ?_
        rintro e w' ⟨rfl, rfl⟩
        rw [ans_none]
        go_wp2
        go_ret
        exact ⟨rfl, below6 _ _ _ _ _ _ _⟩
  cases h1 : mk a b with
  | none => exact start _ _ _ h1 rfl rfl (.inl rfl)
  | some p =>
    cases h2 : mk c d with
    | none => exact start _ _ _ h1 h2 rfl (.inr (.inl rfl))
    | some q =>
      cases h3 : mk f g with
      | none => exact start _ _ _ h1 h2 h3 (.inr (.inr rfl))
      | some r =>
        clear start
        have g1 : Fl.Good (some p) := h1 ▸ mk_good a b
        have g2 : Fl.Good (some q) := h2 ▸ mk_good c d
        have g3 : Fl.Good (some r) := h3 ▸ mk_good f g
        have gm := both_good g1 g2
        have hp := (mk_shape h1).2.2.1
        have hq := (mk_shape h2).2.2.1
        have M2 : mts (some (both p q)) (some q) = true := both_comm p q ▸ both_meet q p hq
        have J2 : jn (some q) (some p) = some (both p q) := by rw [jn_both, both_comm]
        cases hx : bf (some p) (some r)
        · cases hz : bf (some r) (some p)
          · exact joins_a _ _ _ _ _ _ _ _ _ _ w h1 h2 h3 (spn_ans g1) (spn_ans g2) (spn_ans g3) (spn_ans gm) (jn_both p q) J2 (both_meet p q hp) M2 (ord_re_self gm) (ord_im_self gm) (fore_no hx) hx (hind_no hz) hz
          · exact joins_b _ _ _ _ _ _ _ _ _ _ w h1 h2 h3 (spn_ans g1) (spn_ans g2) (spn_ans g3) (spn_ans gm) (jn_both p q) J2 (both_meet p q hp) M2 (ord_re_self gm) (ord_im_self gm) (fore_no hx) hx (hind_yes hz) hz
        · cases hz : bf (some r) (some p)
          · exact joins_c _ _ _ _ _ _ _ _ _ _ w h1 h2 h3 (spn_ans g1) (spn_ans g2) (spn_ans g3) (spn_ans gm) (jn_both p q) J2 (both_meet p q hp) M2 (ord_re_self gm) (ord_im_self gm) (fore_yes hx) hx (hind_no hz) hz
          · exact joins_d _ _ _ _ _ _ _ _ _ _ w h1 h2 h3 (spn_ans g1) (spn_ans g2) (spn_ans g3) (spn_ans gm) (jn_both p q) J2 (both_meet p q hp) M2 (ord_re_self gm) (ord_im_self gm) (fore_yes hx) hx (hind_yes hz) hz
end Go.Proofs.Ytadendkkcdaleaa
