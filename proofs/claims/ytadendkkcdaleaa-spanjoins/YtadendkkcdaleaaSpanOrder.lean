/-
  The walk of SpanOrder: for any three pairs of whole numbers it answers true; nothing that was there is changed.
-/
import Derived.Test.YtadendkkcdaleaaSpanParts
namespace Go.Proofs.Ytadendkkcdaleaa
open Go.RowKit Fl
theorem below6 (w : World) (A B C D E F : Obj) : Below w.heap.size w ((((((w.alloc A).alloc B).alloc C).alloc D).alloc E).alloc F) := by
  have h := below4 w A B C D
  have h2 := h.alloc h.size E
  exact h2.alloc h2.size F
/- what is true of three spans -/
theorem one_way (p q : Nat × Nat) (hp : p.1 ≤ p.2) (hq : q.1 ≤ q.2) :
    (bf (some p) (some q) = true ∧ bf (some q) (some p) = false ∧ mts (some p) (some q) = false ∧ mts (some q) (some p) = false) ∨
    (bf (some p) (some q) = false ∧ bf (some q) (some p) = true ∧ mts (some p) (some q) = false ∧ mts (some q) (some p) = false) ∨
    (bf (some p) (some q) = false ∧ bf (some q) (some p) = false ∧ mts (some p) (some q) = true ∧ mts (some q) (some p) = true) := by
  have e1 : bf (some p) (some q) = decide (p.2 < q.1) := rfl
  have e2 : bf (some q) (some p) = decide (q.2 < p.1) := rfl
  have e3 : mts (some p) (some q) = (!decide (p.2 < q.1) && !decide (q.2 < p.1)) := rfl
  have e4 : mts (some q) (some p) = (!decide (q.2 < p.1) && !decide (p.2 < q.1)) := rfl
  rw [e1, e2, e3, e4]
  rcases Nat.lt_or_ge p.2 q.1 with h | h
  · rw [decide_eq_true h, decide_eq_false (show ¬ q.2 < p.1 by omega)]; simp
  · rw [decide_eq_false (show ¬ p.2 < q.1 by omega)]
    rcases Nat.lt_or_ge q.2 p.1 with k | k
    · rw [decide_eq_true k]; simp
    · rw [decide_eq_false (show ¬ q.2 < p.1 by omega)]; simp
theorem not_self (p : Nat × Nat) (hp : p.1 ≤ p.2) : bf (some p) (some p) = false := decide_eq_false (show ¬ p.2 < p.1 by omega)
theorem through (p q r : Nat × Nat) (hq : q.1 ≤ q.2) (h1 : bf (some p) (some q) = true) (h2 : bf (some q) (some r) = true) : bf (some p) (some r) = true := by
  have h1 : p.2 < q.1 := of_decide_eq_true h1
  have h2 : q.2 < r.1 := of_decide_eq_true h2
  exact decide_eq_true (show p.2 < r.1 by omega)
def cnt (x y z : Bool) : Nat → Nat
  | 0 => 0
  | 1 => x.toNat
  | 2 => x.toNat + y.toNat
  | _ => x.toNat + y.toNat + z.toNat
theorem below7 (w : World) (A B C D E F G : Obj) : Below w.heap.size w (((((((w.alloc A).alloc B).alloc C).alloc D).alloc E).alloc F).alloc G) := by
  have h := below6 w A B C D E F
  exact h.alloc h.size G
set_option maxHeartbeats 1000000 in
set_option maxRecDepth 100000 in
theorem order_a (a b c d f g : Int) (p q r : Nat × Nat) (w : World) (H1 : Hid (mk a b = some p)) (H2 : Hid (mk c d = some q)) (H3 : Hid (mk f g = some r))
    (S1 : Hid (spn (re_ (some p)) (im_ (some p)) = some p)) (S2 : Hid (spn (re_ (some q)) (im_ (some q)) = some q)) (S3 : Hid (spn (re_ (some r)) (im_ (some r)) = some r))
    (HN : Hid (bf (some p) (some p) = false)) (B1 : Hid (bf (some p) (some q) = true)) (B2 : Hid (bf (some q) (some p) = false)) (B3 : Hid (mts (some p) (some q) = false)) (B4 : Hid (mts (some q) (some p) = false)) (HQ : Hid (bf (some q) (some r) = false)) :
    Calls Try.prog 5 #[.agg #[.int .i64 a, .int .i64 b], .agg #[.int .i64 c, .int .i64 d], .agg #[.int .i64 f, .int .i64 g]] w fun e w' => e = .returned (.bool true) ∧ Below w.heap.size w w' := by
  go_enter Try.func5, Try.ntmps5
  go_wp2_with fail
  refine (alive_any _).mono ?_
  rintro e w' ⟨rfl, rfl⟩
  go_wp2_with fail
  refine (two_at _ _ _ _ H1.out).mono ?_
  rintro e w' ⟨rfl, rfl⟩
  unfold ans
  go_wp2_with fail
  refine (two_at _ _ _ _ H2.out).mono ?_
  rintro e w' ⟨rfl, rfl⟩
  unfold ans
  go_wp2_with fail
  refine (two_at _ _ _ _ H3.out).mono ?_
  rintro e w' ⟨rfl, rfl⟩
  unfold ans
  go_wp2_with fail
  refine (before_val _ _ _ _ _ _ _ _ S1.out S2.out B1.out).mono ?_
  rintro e w' ⟨rfl, rfl⟩
  go_wp2_with fail
  refine (before_val _ _ _ _ _ _ _ _ S2.out S1.out B2.out).mono ?_
  rintro e w' ⟨rfl, rfl⟩
  go_wp2_with fail
  refine (meet_val _ _ _ _ _ _ _ _ S1.out S2.out B3.out).mono ?_
  rintro e w' ⟨rfl, rfl⟩
  go_wp2
  go_loop [13, 54] (fun n i => ∃ k : Nat, k ≤ 3 ∧ i = .int .i64 k ∧ n = .int .i64 (cnt (bf (some p) (some q)) (bf (some q) (some p)) (mts (some p) (some q)) k : Nat)) (fun _ i => 3 - (intOf i).toNat)
  case atStart => exact ⟨0, by omega, rfl, rfl⟩
  case round =>
    obtain ⟨k, hk, rfl, rfl⟩ := hrel
    rw [B1.out, B2.out, B3.out]
    match k, hk with
    | 0, _ =>
      simp only [cnt]
      go_wp2
      go_round
      case rel => exact ⟨1, by omega, rfl, rfl⟩
      case measure => simp [intOf]
    | 1, _ =>
      simp only [cnt]
      go_wp2
      go_round
      case rel => exact ⟨2, by omega, rfl, rfl⟩
      case measure => simp [intOf]
    | 2, _ =>
      simp only [cnt]
      go_wp2
      go_round
      case rel => exact ⟨3, by omega, rfl, rfl⟩
      case measure => simp [intOf]
    | 3, _ =>
      simp only [cnt]
      go_wp2_with fail
      refine (before_val _ _ _ _ _ _ _ _ S1.out S1.out HN.out).mono ?_
      rintro e w' ⟨rfl, rfl⟩
      go_wp2_with fail
      refine (meet_val _ _ _ _ _ _ _ _ S1.out S2.out B3.out).mono ?_
      rintro e w' ⟨rfl, rfl⟩
      go_wp2_with fail
      refine (meet_val _ _ _ _ _ _ _ _ S2.out S1.out B4.out).mono ?_
      rintro e w' ⟨rfl, rfl⟩
      go_wp2_with fail
      refine (before_val _ _ _ _ _ _ _ _ S1.out S2.out B1.out).mono ?_
      rintro e w' ⟨rfl, rfl⟩
      go_wp2_with fail
      refine (before_val _ _ _ _ _ _ _ _ S2.out S3.out HQ.out).mono ?_
      rintro e w' ⟨rfl, rfl⟩
      go_wp2
      go_ret
      exact ⟨rfl, below7 _ _ _ _ _ _ _ _⟩
set_option maxHeartbeats 1000000 in
set_option maxRecDepth 100000 in
theorem order_b (a b c d f g : Int) (p q r : Nat × Nat) (w : World) (H1 : Hid (mk a b = some p)) (H2 : Hid (mk c d = some q)) (H3 : Hid (mk f g = some r))
    (S1 : Hid (spn (re_ (some p)) (im_ (some p)) = some p)) (S2 : Hid (spn (re_ (some q)) (im_ (some q)) = some q)) (S3 : Hid (spn (re_ (some r)) (im_ (some r)) = some r))
    (HN : Hid (bf (some p) (some p) = false)) (B1 : Hid (bf (some p) (some q) = true)) (B2 : Hid (bf (some q) (some p) = false)) (B3 : Hid (mts (some p) (some q) = false)) (B4 : Hid (mts (some q) (some p) = false)) (HQ : Hid (bf (some q) (some r) = true)) (HR : Hid (bf (some p) (some r) = true)) :
    Calls Try.prog 5 #[.agg #[.int .i64 a, .int .i64 b], .agg #[.int .i64 c, .int .i64 d], .agg #[.int .i64 f, .int .i64 g]] w fun e w' => e = .returned (.bool true) ∧ Below w.heap.size w w' := by
  go_enter Try.func5, Try.ntmps5
  go_wp2_with fail
  refine (alive_any _).mono ?_
  rintro e w' ⟨rfl, rfl⟩
  go_wp2_with fail
  refine (two_at _ _ _ _ H1.out).mono ?_
  rintro e w' ⟨rfl, rfl⟩
  unfold ans
  go_wp2_with fail
  refine (two_at _ _ _ _ H2.out).mono ?_
  rintro e w' ⟨rfl, rfl⟩
  unfold ans
  go_wp2_with fail
  refine (two_at _ _ _ _ H3.out).mono ?_
  rintro e w' ⟨rfl, rfl⟩
  unfold ans
  go_wp2_with fail
  refine (before_val _ _ _ _ _ _ _ _ S1.out S2.out B1.out).mono ?_
  rintro e w' ⟨rfl, rfl⟩
  go_wp2_with fail
  refine (before_val _ _ _ _ _ _ _ _ S2.out S1.out B2.out).mono ?_
  rintro e w' ⟨rfl, rfl⟩
  go_wp2_with fail
  refine (meet_val _ _ _ _ _ _ _ _ S1.out S2.out B3.out).mono ?_
  rintro e w' ⟨rfl, rfl⟩
  go_wp2
  go_loop [13, 54] (fun n i => ∃ k : Nat, k ≤ 3 ∧ i = .int .i64 k ∧ n = .int .i64 (cnt (bf (some p) (some q)) (bf (some q) (some p)) (mts (some p) (some q)) k : Nat)) (fun _ i => 3 - (intOf i).toNat)
  case atStart => exact ⟨0, by omega, rfl, rfl⟩
  case round =>
    obtain ⟨k, hk, rfl, rfl⟩ := hrel
    rw [B1.out, B2.out, B3.out]
    match k, hk with
    | 0, _ =>
      simp only [cnt]
      go_wp2
      go_round
      case rel => exact ⟨1, by omega, rfl, rfl⟩
      case measure => simp [intOf]
    | 1, _ =>
      simp only [cnt]
      go_wp2
      go_round
      case rel => exact ⟨2, by omega, rfl, rfl⟩
      case measure => simp [intOf]
    | 2, _ =>
      simp only [cnt]
      go_wp2
      go_round
      case rel => exact ⟨3, by omega, rfl, rfl⟩
      case measure => simp [intOf]
    | 3, _ =>
      simp only [cnt]
      go_wp2_with fail
      refine (before_val _ _ _ _ _ _ _ _ S1.out S1.out HN.out).mono ?_
      rintro e w' ⟨rfl, rfl⟩
      go_wp2_with fail
      refine (meet_val _ _ _ _ _ _ _ _ S1.out S2.out B3.out).mono ?_
      rintro e w' ⟨rfl, rfl⟩
      go_wp2_with fail
      refine (meet_val _ _ _ _ _ _ _ _ S2.out S1.out B4.out).mono ?_
      rintro e w' ⟨rfl, rfl⟩
      go_wp2_with fail
      refine (before_val _ _ _ _ _ _ _ _ S1.out S2.out B1.out).mono ?_
      rintro e w' ⟨rfl, rfl⟩
      go_wp2_with fail
      refine (before_val _ _ _ _ _ _ _ _ S2.out S3.out HQ.out).mono ?_
      rintro e w' ⟨rfl, rfl⟩
      go_wp2_with fail
      refine (before_val _ _ _ _ _ _ _ _ S1.out S3.out HR.out).mono ?_
      rintro e w' ⟨rfl, rfl⟩
      go_wp2
      go_ret
      exact ⟨rfl, below7 _ _ _ _ _ _ _ _⟩
set_option maxHeartbeats 1000000 in
set_option maxRecDepth 100000 in
theorem order_c (a b c d f g : Int) (p q r : Nat × Nat) (w : World) (H1 : Hid (mk a b = some p)) (H2 : Hid (mk c d = some q)) (H3 : Hid (mk f g = some r))
    (S1 : Hid (spn (re_ (some p)) (im_ (some p)) = some p)) (S2 : Hid (spn (re_ (some q)) (im_ (some q)) = some q)) (_S3 : Hid (spn (re_ (some r)) (im_ (some r)) = some r))
    (HN : Hid (bf (some p) (some p) = false)) (B1 : Hid (bf (some p) (some q) = false)) (B2 : Hid (bf (some q) (some p) = true)) (B3 : Hid (mts (some p) (some q) = false)) (B4 : Hid (mts (some q) (some p) = false)) :
    Calls Try.prog 5 #[.agg #[.int .i64 a, .int .i64 b], .agg #[.int .i64 c, .int .i64 d], .agg #[.int .i64 f, .int .i64 g]] w fun e w' => e = .returned (.bool true) ∧ Below w.heap.size w w' := by
  go_enter Try.func5, Try.ntmps5
  go_wp2_with fail
  refine (alive_any _).mono ?_
  rintro e w' ⟨rfl, rfl⟩
  go_wp2_with fail
  refine (two_at _ _ _ _ H1.out).mono ?_
  rintro e w' ⟨rfl, rfl⟩
  unfold ans
  go_wp2_with fail
  refine (two_at _ _ _ _ H2.out).mono ?_
  rintro e w' ⟨rfl, rfl⟩
  unfold ans
  go_wp2_with fail
  refine (two_at _ _ _ _ H3.out).mono ?_
  rintro e w' ⟨rfl, rfl⟩
  unfold ans
  go_wp2_with fail
  refine (before_val _ _ _ _ _ _ _ _ S1.out S2.out B1.out).mono ?_
  rintro e w' ⟨rfl, rfl⟩
  go_wp2_with fail
  refine (before_val _ _ _ _ _ _ _ _ S2.out S1.out B2.out).mono ?_
  rintro e w' ⟨rfl, rfl⟩
  go_wp2_with fail
  refine (meet_val _ _ _ _ _ _ _ _ S1.out S2.out B3.out).mono ?_
  rintro e w' ⟨rfl, rfl⟩
  go_wp2
  go_loop [13, 54] (fun n i => ∃ k : Nat, k ≤ 3 ∧ i = .int .i64 k ∧ n = .int .i64 (cnt (bf (some p) (some q)) (bf (some q) (some p)) (mts (some p) (some q)) k : Nat)) (fun _ i => 3 - (intOf i).toNat)
  case atStart => exact ⟨0, by omega, rfl, rfl⟩
  case round =>
    obtain ⟨k, hk, rfl, rfl⟩ := hrel
    rw [B1.out, B2.out, B3.out]
    match k, hk with
    | 0, _ =>
      simp only [cnt]
      go_wp2
      go_round
      case rel => exact ⟨1, by omega, rfl, rfl⟩
      case measure => simp [intOf]
    | 1, _ =>
      simp only [cnt]
      go_wp2
      go_round
      case rel => exact ⟨2, by omega, rfl, rfl⟩
      case measure => simp [intOf]
    | 2, _ =>
      simp only [cnt]
      go_wp2
      go_round
      case rel => exact ⟨3, by omega, rfl, rfl⟩
      case measure => simp [intOf]
    | 3, _ =>
      simp only [cnt]
      go_wp2_with fail
      refine (before_val _ _ _ _ _ _ _ _ S1.out S1.out HN.out).mono ?_
      rintro e w' ⟨rfl, rfl⟩
      go_wp2_with fail
      refine (meet_val _ _ _ _ _ _ _ _ S1.out S2.out B3.out).mono ?_
      rintro e w' ⟨rfl, rfl⟩
      go_wp2_with fail
      refine (meet_val _ _ _ _ _ _ _ _ S2.out S1.out B4.out).mono ?_
      rintro e w' ⟨rfl, rfl⟩
      go_wp2_with fail
      refine (before_val _ _ _ _ _ _ _ _ S1.out S2.out B1.out).mono ?_
      rintro e w' ⟨rfl, rfl⟩
      go_wp2
      go_ret
      exact ⟨rfl, below7 _ _ _ _ _ _ _ _⟩
set_option maxHeartbeats 1000000 in
set_option maxRecDepth 100000 in
theorem order_d (a b c d f g : Int) (p q r : Nat × Nat) (w : World) (H1 : Hid (mk a b = some p)) (H2 : Hid (mk c d = some q)) (H3 : Hid (mk f g = some r))
    (S1 : Hid (spn (re_ (some p)) (im_ (some p)) = some p)) (S2 : Hid (spn (re_ (some q)) (im_ (some q)) = some q)) (_S3 : Hid (spn (re_ (some r)) (im_ (some r)) = some r))
    (HN : Hid (bf (some p) (some p) = false)) (B1 : Hid (bf (some p) (some q) = false)) (B2 : Hid (bf (some q) (some p) = false)) (B3 : Hid (mts (some p) (some q) = true)) (B4 : Hid (mts (some q) (some p) = true)) :
    Calls Try.prog 5 #[.agg #[.int .i64 a, .int .i64 b], .agg #[.int .i64 c, .int .i64 d], .agg #[.int .i64 f, .int .i64 g]] w fun e w' => e = .returned (.bool true) ∧ Below w.heap.size w w' := by
  go_enter Try.func5, Try.ntmps5
  go_wp2_with fail
  refine (alive_any _).mono ?_
  rintro e w' ⟨rfl, rfl⟩
  go_wp2_with fail
  refine (two_at _ _ _ _ H1.out).mono ?_
  rintro e w' ⟨rfl, rfl⟩
  unfold ans
  go_wp2_with fail
  refine (two_at _ _ _ _ H2.out).mono ?_
  rintro e w' ⟨rfl, rfl⟩
  unfold ans
  go_wp2_with fail
  refine (two_at _ _ _ _ H3.out).mono ?_
  rintro e w' ⟨rfl, rfl⟩
  unfold ans
  go_wp2_with fail
  refine (before_val _ _ _ _ _ _ _ _ S1.out S2.out B1.out).mono ?_
  rintro e w' ⟨rfl, rfl⟩
  go_wp2_with fail
  refine (before_val _ _ _ _ _ _ _ _ S2.out S1.out B2.out).mono ?_
  rintro e w' ⟨rfl, rfl⟩
  go_wp2_with fail
  refine (meet_val _ _ _ _ _ _ _ _ S1.out S2.out B3.out).mono ?_
  rintro e w' ⟨rfl, rfl⟩
  go_wp2
  go_loop [13, 54] (fun n i => ∃ k : Nat, k ≤ 3 ∧ i = .int .i64 k ∧ n = .int .i64 (cnt (bf (some p) (some q)) (bf (some q) (some p)) (mts (some p) (some q)) k : Nat)) (fun _ i => 3 - (intOf i).toNat)
  case atStart => exact ⟨0, by omega, rfl, rfl⟩
  case round =>
    obtain ⟨k, hk, rfl, rfl⟩ := hrel
    rw [B1.out, B2.out, B3.out]
    match k, hk with
    | 0, _ =>
      simp only [cnt]
      go_wp2
      go_round
      case rel => exact ⟨1, by omega, rfl, rfl⟩
      case measure => simp [intOf]
    | 1, _ =>
      simp only [cnt]
      go_wp2
      go_round
      case rel => exact ⟨2, by omega, rfl, rfl⟩
      case measure => simp [intOf]
    | 2, _ =>
      simp only [cnt]
      go_wp2
      go_round
      case rel => exact ⟨3, by omega, rfl, rfl⟩
      case measure => simp [intOf]
    | 3, _ =>
      simp only [cnt]
      go_wp2_with fail
      refine (before_val _ _ _ _ _ _ _ _ S1.out S1.out HN.out).mono ?_
      rintro e w' ⟨rfl, rfl⟩
      go_wp2_with fail
      refine (meet_val _ _ _ _ _ _ _ _ S1.out S2.out B3.out).mono ?_
      rintro e w' ⟨rfl, rfl⟩
      go_wp2_with fail
      refine (meet_val _ _ _ _ _ _ _ _ S2.out S1.out B4.out).mono ?_
      rintro e w' ⟨rfl, rfl⟩
      go_wp2_with fail
      refine (before_val _ _ _ _ _ _ _ _ S1.out S2.out B1.out).mono ?_
      rintro e w' ⟨rfl, rfl⟩
      go_wp2
      go_ret
      exact ⟨rfl, below7 _ _ _ _ _ _ _ _⟩
set_option maxHeartbeats 1000000 in
set_option maxRecDepth 100000 in
theorem spanOrder_walk (a b c d f g : Int) (w : World) :
    Calls Try.prog 5 #[.agg #[.int .i64 a, .int .i64 b], .agg #[.int .i64 c, .int .i64 d], .agg #[.int .i64 f, .int .i64 g]] w fun e w' => e = .returned (.bool true) ∧ Below w.heap.size w w' := by
  have start : ∀ s t u : Sp, mk a b = s → mk c d = t → mk f g = u → (s = none ∨ t = none ∨ u = none) → Calls Try.prog 5 #[.agg #[.int .i64 a, .int .i64 b], .agg #[.int .i64 c, .int .i64 d], .agg #[.int .i64 f, .int .i64 g]] w fun e w' => e = .returned (.bool true) ∧ Below w.heap.size w w' := by
    intro s t u h1 h2 h3 hn
    have H1 := Lib.hid h1
    have H2 := Lib.hid h2
    have H3 := Lib.hid h3
    clear h1 h2 h3
    cases s with
    | none =>
      clear hn
      go_enter Try.func5, Try.ntmps5
      go_wp2_with fail
      refine (alive_any _).mono ?_
      rintro e w' ⟨rfl, rfl⟩
      go_wp2_with fail
      refine (two_at _ _ _ _ H1.out).mono ?_
      rintro e w' ⟨rfl, rfl⟩
      rw [ans_none]
      go_wp2_with fail
      refine (two_any _ _ _).mono ?_
      rintro e w' ⟨rfl, rfl⟩
      unfold ans
      go_wp2_with fail
      refine (two_any _ _ _).mono ?_
      rintro e w' ⟨rfl, rfl⟩
      unfold ans
      go_wp2
      go_ret
      exact ⟨rfl, below6 _ _ _ _ _ _ _⟩
    | some p =>
      cases t with
      | none =>
        clear hn
        go_enter Try.func5, Try.ntmps5
        go_wp2_with fail
        refine (alive_any _).mono ?_
        rintro e w' ⟨rfl, rfl⟩
        go_wp2_with fail
        refine (two_at _ _ _ _ H1.out).mono ?_
        rintro e w' ⟨rfl, rfl⟩
        unfold ans
        go_wp2_with fail
        refine (two_at _ _ _ _ H2.out).mono ?_
        rintro e w' ⟨rfl, rfl⟩
        rw [ans_none]
        go_wp2_with fail
        refine (two_any _ _ _).mono ?_
        rintro e w' ⟨rfl, rfl⟩
        unfold ans
        go_wp2
        go_ret
        exact ⟨rfl, below6 _ _ _ _ _ _ _⟩
      | some q =>
        obtain rfl : u = none := by simpa using hn
        clear hn
        go_enter Try.func5, Try.ntmps5
        go_wp2_with fail
        refine (alive_any _).mono ?_
        rintro e w' ⟨rfl, rfl⟩
        go_wp2_with fail
        refine (two_at _ _ _ _ H1.out).mono ?_
        rintro e w' ⟨rfl, rfl⟩
        unfold ans
        go_wp2_with fail
        refine (two_at _ _ _ _ H2.out).mono ?_
        rintro e w' ⟨rfl, rfl⟩
        unfold ans
        go_wp2_with fail
        refine (two_at _ _ _ _ H3.out).mono ?_
        rintro e w' ⟨rfl, rfl⟩
        rw [ans_none]
        go_wp2
        go_ret
        exact ⟨rfl, below6 _ _ _ _ _ _ _⟩
  cases h1 : mk a b with
  | none => exact start _ _ _ h1 rfl rfl (.inl rfl)
  | some p =>
    cases h2 : mk c d with
    | none => exact start _ _ _ h1 h2 rfl (.inr (.inl rfl))
    | some q =>
      cases h3 : mk f g with
      | none => exact start _ _ _ h1 h2 h3 (.inr (.inr rfl))
      | some r =>
        clear start
        have S1 := Lib.hid (spn_ans (h1 ▸ mk_good a b))
        have S2 := Lib.hid (spn_ans (h2 ▸ mk_good c d))
        have S3 := Lib.hid (spn_ans (h3 ▸ mk_good f g))
        have hp := (mk_shape h1).2.2.1
        have hq := (mk_shape h2).2.2.1
        have H1 := Lib.hid h1
        have H2 := Lib.hid h2
        have H3 := Lib.hid h3
        have HN := Lib.hid (not_self p hp)
        have HW := Lib.hid (one_way p q hp hq)
        have HT := Lib.hid (through p q r hq)
        clear h1 h2 h3 hp hq
        rcases HW.out with ⟨b1, b2, b3, b4⟩ | ⟨b1, b2, b3, b4⟩ | ⟨b1, b2, b3, b4⟩
        · cases hqr : bf (some q) (some r)
          · exact order_a _ _ _ _ _ _ _ _ _ w H1 H2 H3 S1 S2 S3 HN (Lib.hid b1) (Lib.hid b2) (Lib.hid b3) (Lib.hid b4) (Lib.hid hqr)
          · exact order_b _ _ _ _ _ _ _ _ _ w H1 H2 H3 S1 S2 S3 HN (Lib.hid b1) (Lib.hid b2) (Lib.hid b3) (Lib.hid b4) (Lib.hid hqr) (Lib.hid (HT.out b1 hqr))
        · exact order_c _ _ _ _ _ _ _ _ _ w H1 H2 H3 S1 S2 S3 HN (Lib.hid b1) (Lib.hid b2) (Lib.hid b3) (Lib.hid b4)
        · exact order_d _ _ _ _ _ _ _ _ _ w H1 H2 H3 S1 S2 S3 HN (Lib.hid b1) (Lib.hid b2) (Lib.hid b3) (Lib.hid b4)
end Go.Proofs.Ytadendkkcdaleaa
