/-
  Contracts of Of, Before, Meet, Join and Move of package span: each returns what the plain mathematics of pairs says, and leaves the world as it was.
-/
import Derived.Test.YtadendkkcdaleaaSpanWalks
namespace Go.Proofs.Ytadendkkcdaleaa
open Go.RowKit Fl
/-- what a call that answers a span, or none, returns. -/
def ans (o : Sp) : Value := .tuple #[.complex .f64 (re_ o) (im_ o), .bool o.isSome]
set_option maxHeartbeats 400000 in
theorem before_at (a b c d : Nat) (s t : Sp) (w : World) (h1 : spn a b = s) (h2 : spn c d = t) :
    Calls Try.prog 15 #[.complex .f64 a b, .complex .f64 c d] w fun e w' => e = .returned (.bool (bf s t)) ∧ w = w' := by
  have H1 := Lib.hid h1
  have H2 := Lib.hid h2
  cases s with
  | none =>
    clear h1 h2
    go_enter Try.func15, Try.ntmps15
    go_wp2_with (go_at_call 21; refine (right_at _ _ _ _ H1.out).mono ?_; rintro e w' ⟨rfl, rfl⟩)
    go_ret
    exact ⟨rfl, rfl⟩
  | some p =>
    cases t with
    | none =>
      clear h1 h2
      go_enter Try.func15, Try.ntmps15
      go_wp2_with fail
      refine (right_at _ _ _ _ H1.out).mono ?_
      rintro e w' ⟨rfl, rfl⟩
      go_wp2_with fail
      refine (right_at _ _ _ _ H2.out).mono ?_
      rintro e w' ⟨rfl, rfl⟩
      go_wp2
      go_ret
      exact ⟨rfl, rfl⟩
    | some q =>
      have HR := Lib.hid (show (ord b c == some .lt) = bf (some p) (some q) by
        rw [ord_lt (spn_some.1 h1).2.1 (spn_some.1 h2).1]; rfl)
      clear h1 h2
      go_enter Try.func15, Try.ntmps15
      go_wp2_with fail
      refine (right_at _ _ _ _ H1.out).mono ?_
      rintro e w' ⟨rfl, rfl⟩
      go_wp2_with fail
      refine (right_at _ _ _ _ H2.out).mono ?_
      rintro e w' ⟨rfl, rfl⟩
      go_wp2
      go_ret
      exact ⟨ret_bool HR.out, rfl⟩
theorem before_val (a b c d : Nat) (s t : Sp) (v : Bool) (w : World) (h1 : spn a b = s) (h2 : spn c d = t) (hv : bf s t = v) :
    Calls Try.prog 15 #[.complex .f64 a b, .complex .f64 c d] w fun e w' => e = .returned (.bool v) ∧ w = w' := by
  subst hv; exact before_at a b c d s t w h1 h2
set_option maxHeartbeats 400000 in
theorem meet_at (a b c d : Nat) (s t : Sp) (w : World) (h1 : spn a b = s) (h2 : spn c d = t) :
    Calls Try.prog 17 #[.complex .f64 a b, .complex .f64 c d] w fun e w' => e = .returned (.bool (mts s t)) ∧ w = w' := by
  have H1 := Lib.hid h1
  have H2 := Lib.hid h2
  clear h1 h2
  cases s with
  | none =>
    go_enter Try.func17, Try.ntmps17
    go_wp2_with (go_at_call 21; refine (right_at _ _ _ _ H1.out).mono ?_; rintro e w' ⟨rfl, rfl⟩)
    go_ret
    exact ⟨rfl, rfl⟩
  | some p =>
    cases t with
    | none =>
      go_enter Try.func17, Try.ntmps17
      go_wp2_with fail
      refine (right_at _ _ _ _ H1.out).mono ?_
      rintro e w' ⟨rfl, rfl⟩
      go_wp2_with fail
      refine (right_at _ _ _ _ H2.out).mono ?_
      rintro e w' ⟨rfl, rfl⟩
      go_wp2
      go_ret
      exact ⟨rfl, rfl⟩
    | some q =>
      cases hb : bf (some p) (some q)
      · have HR := Lib.hid (show (!bf (some q) (some p)) = mts (some p) (some q) by unfold mts; rw [hb]; rfl)
        have HB := Lib.hid hb
        clear hb
        go_enter Try.func17, Try.ntmps17
        go_wp2_with fail
        refine (right_at _ _ _ _ H1.out).mono ?_
        rintro e w' ⟨rfl, rfl⟩
        go_wp2_with fail
        refine (right_at _ _ _ _ H2.out).mono ?_
        rintro e w' ⟨rfl, rfl⟩
        go_wp2_with fail
        refine (before_val _ _ _ _ _ _ _ _ H1.out H2.out HB.out).mono ?_
        rintro e w' ⟨rfl, rfl⟩
        go_wp2_with fail
        refine (before_at _ _ _ _ _ _ _ H2.out H1.out).mono ?_
        rintro e w' ⟨rfl, rfl⟩
        go_wp2
        go_ret
        exact ⟨ret_bool HR.out, rfl⟩
      · have HR := Lib.hid (show mts (some p) (some q) = false by unfold mts; rw [hb]; rfl)
        have HB := Lib.hid hb
        clear hb
        go_enter Try.func17, Try.ntmps17
        go_wp2_with fail
        refine (right_at _ _ _ _ H1.out).mono ?_
        rintro e w' ⟨rfl, rfl⟩
        go_wp2_with fail
        refine (right_at _ _ _ _ H2.out).mono ?_
        rintro e w' ⟨rfl, rfl⟩
        go_wp2_with fail
        refine (before_val _ _ _ _ _ _ _ _ H1.out H2.out HB.out).mono ?_
        rintro e w' ⟨rfl, rfl⟩
        go_wp2
        go_ret
        rw [HR.out]; exact ⟨rfl, rfl⟩
theorem meet_val (a b c d : Nat) (s t : Sp) (v : Bool) (w : World) (h1 : spn a b = s) (h2 : spn c d = t) (hv : mts s t = v) :
    Calls Try.prog 17 #[.complex .f64 a b, .complex .f64 c d] w fun e w' => e = .returned (.bool v) ∧ w = w' := by
  subst hv; exact meet_at a b c d s t w h1 h2
theorem mk_none {b e : Int} (h : ¬ (0 ≤ b ∧ b ≤ e ∧ e ≤ 9007199254740992)) : mk b e = none := by unfold mk; rw [if_neg h]
theorem mk_some {b e : Int} (h : 0 ≤ b ∧ b ≤ e ∧ e ≤ 9007199254740992) : mk b e = some (b.toNat, e.toNat) := by unfold mk; rw [if_pos h]
set_option maxHeartbeats 400000 in
theorem of_any (b e : Int) (w : World) :
    Calls Try.prog 24 #[.int .i64 b, .int .i64 e] w fun en w' => en = .returned (ans (mk b e)) ∧ w = w' := by
  by_cases h1 : b < 0
  · have HR := Lib.hid (mk_none (b := b) (e := e) (by omega))
    go_enter Try.func24, Try.ntmps24
    go_wp2
    go_ret2
    rw [HR.out]; exact ⟨rfl, rfl⟩
  · have d1 : decide (b < 0) = false := by simp; omega
    by_cases h2 : e < b
    · have HR := Lib.hid (mk_none (b := b) (e := e) (by omega))
      clear h1
      go_enter Try.func24, Try.ntmps24
      go_wp2
      go_ret2
      rw [HR.out]; exact ⟨rfl, rfl⟩
    · have d2 : decide (e < b) = false := by simp; omega
      by_cases h3 : 9007199254740992 < e
      · have HR := Lib.hid (mk_none (b := b) (e := e) (by omega))
        clear h1 h2
        go_enter Try.func24, Try.ntmps24
        go_wp2
        go_ret2
        rw [HR.out]; exact ⟨rfl, rfl⟩
      · have d3 : decide (9007199254740992 < e) = false := by simp; omega
        have HR := Lib.hid (mk_some (b := b) (e := e) (by omega))
        have F1 := Lib.hid (floatOfInt_nat b (by omega))
        have F2 := Lib.hid (floatOfInt_nat e (by omega))
        clear h1 h2 h3
        go_enter Try.func24, Try.ntmps24
        go_wp2
        go_ret2
        rw [HR.out, F1.out, F2.out]; exact ⟨rfl, rfl⟩
theorem of_at (b e : Int) (o : Sp) (w : World) (h : mk b e = o) :
    Calls Try.prog 24 #[.int .i64 b, .int .i64 e] w fun en w' => en = .returned (ans o) ∧ w = w' := by
  subst h; exact of_any b e w
theorem ans_none : ans none = .tuple #[.complex .f64 0 0, .bool false] := rfl
theorem jn_mk {p q : Nat × Nat} (h1 : p.1 ≤ p.2 ∧ p.2 ≤ never) (h2 : q.1 ≤ q.2 ∧ q.2 ≤ never) (x y : Int)
    (hx : x = (bg (some p) : Nat) ∧ bg (some p) ≤ bg (some q) ∨ x = (bg (some q) : Nat) ∧ bg (some q) < bg (some p))
    (hy : y = (en (some p) : Nat) ∧ en (some q) ≤ en (some p) ∨ y = (en (some q) : Nat) ∧ en (some p) < en (some q)) : mk x y = jn (some p) (some q) := by
  unfold never at *
  change x = (p.1 : Int) ∧ p.1 ≤ q.1 ∨ x = (q.1 : Int) ∧ q.1 < p.1 at hx
  change y = (p.2 : Int) ∧ q.2 ≤ p.2 ∨ y = (q.2 : Int) ∧ p.2 < q.2 at hy
  show mk x y = some (min p.1 q.1, max p.2 q.2)
  rw [mk_some (by omega)]
  congr 2 <;> omega
set_option maxHeartbeats 1000000 in
theorem join_at (a b c d : Nat) (s t : Sp) (w : World) (h1 : spn a b = s) (h2 : spn c d = t) :
    Calls Try.prog 13 #[.complex .f64 a b, .complex .f64 c d] w fun e w' => e = .returned (ans (jn s t)) ∧ w = w' := by
  have H1 := Lib.hid h1
  have H2 := Lib.hid h2
  cases s with
  | none =>
    clear h1 h2
    go_enter Try.func13, Try.ntmps13
    go_wp2_with (go_at_call 21; refine (right_at _ _ _ _ H1.out).mono ?_; rintro e w' ⟨rfl, rfl⟩)
    go_ret2
    exact ⟨rfl, rfl⟩
  | some p =>
    cases t with
    | none =>
      clear h1 h2
      go_enter Try.func13, Try.ntmps13
      go_wp2_with fail
      refine (right_at _ _ _ _ H1.out).mono ?_
      rintro e w' ⟨rfl, rfl⟩
      go_wp2_with fail
      refine (right_at _ _ _ _ H2.out).mono ?_
      rintro e w' ⟨rfl, rfl⟩
      go_wp2
      go_ret2
      exact ⟨rfl, rfl⟩
    | some q =>
      have HR := Lib.hid (jn_mk (spn_good _ _ _ _ h1) (spn_good _ _ _ _ h2))
      clear h1 h2
      rcases Nat.lt_or_ge (bg (some q)) (bg (some p)) with g1 | g1 <;> rcases Nat.lt_or_ge (en (some p)) (en (some q)) with g2 | g2
      all_goals
        go_enter Try.func13, Try.ntmps13
        go_wp2_with fail
        refine (right_at _ _ _ _ H1.out).mono ?_
        rintro e w' ⟨rfl, rfl⟩
        go_wp2_with fail
        refine (right_at _ _ _ _ H2.out).mono ?_
        rintro e w' ⟨rfl, rfl⟩
        go_wp2_with fail
        refine (begin_at _ _ _ _ H1.out).mono ?_
        rintro e w' ⟨rfl, rfl⟩
        go_wp2_with fail
        refine (begin_at _ _ _ _ H2.out).mono ?_
        rintro e w' ⟨rfl, rfl⟩
        go_wp2_with fail
        refine (end_at _ _ _ _ H1.out).mono ?_
        rintro e w' ⟨rfl, rfl⟩
        go_wp2_with fail
        refine (end_at _ _ _ _ H2.out).mono ?_
        rintro e w' ⟨rfl, rfl⟩
        go_wp2_with fail
        refine (of_at _ _ _ _ (HR.out _ _ (by omega) (by omega))).mono ?_
        rintro e w' ⟨rfl, rfl⟩
        unfold ans
        go_wp2
        go_ret2
        exact ⟨rfl, rfl⟩
theorem mv_out {s : Sp} {k : Int} (h : k < -9007199254740992 ∨ 9007199254740992 < k) : mv s k = none := by
  unfold mv
  rw [if_neg]
  simp; omega
theorem mv_in {p : Nat × Nat} {k : Int} (h : -9007199254740992 ≤ k ∧ k ≤ 9007199254740992) : mv (some p) k = mk (p.1 + k) (if p.2 = never then never else p.2 + k) := by
  unfold mv
  rw [if_pos (by simp; omega)]; rfl
theorem en_beq (p : Nat × Nat) (h : p.2 = never) : (((en (some p) : Nat) : Int) != 9007199254740992) = false := by
  show (((p.2 : Nat) : Int) != 9007199254740992) = false
  rw [h]; rfl
theorem en_bne (p : Nat × Nat) (h : p.2 ≠ never) : (((en (some p) : Nat) : Int) != 9007199254740992) = true := by
  show (((p.2 : Nat) : Int) != 9007199254740992) = true
  unfold never at h
  simp; omega
set_option maxHeartbeats 1000000 in
theorem move_at (a b : Nat) (k : Int) (s : Sp) (w : World) (h1 : spn a b = s) :
    Calls Try.prog 14 #[.complex .f64 a b, .int .i64 k] w fun e w' => e = .returned (ans (mv s k)) ∧ w = w' := by
  have H1 := Lib.hid h1
  cases s with
  | none =>
    clear h1
    have HR := Lib.hid (show mv none k = none from rfl)
    go_enter Try.func14, Try.ntmps14
    go_wp2_with (go_at_call 21; refine (right_at _ _ _ _ H1.out).mono ?_; rintro e w' ⟨rfl, rfl⟩)
    go_ret2
    rw [HR.out]; exact ⟨rfl, rfl⟩
  | some p =>
    by_cases hk1 : k < -9007199254740992
    · clear h1
      have HR := Lib.hid (mv_out (s := some p) (.inl hk1))
      go_enter Try.func14, Try.ntmps14
      go_wp2_with (go_at_call 21; refine (right_at _ _ _ _ H1.out).mono ?_; rintro e w' ⟨rfl, rfl⟩)
      go_ret2
      rw [HR.out]; exact ⟨rfl, rfl⟩
    · have d1 : decide (k < -9007199254740992) = false := by simp; omega
      by_cases hk2 : 9007199254740992 < k
      · clear h1 hk1
        have HR := Lib.hid (mv_out (s := some p) (.inr hk2))
        go_enter Try.func14, Try.ntmps14
        go_wp2_with (go_at_call 21; refine (right_at _ _ _ _ H1.out).mono ?_; rintro e w' ⟨rfl, rfl⟩)
        go_ret2
        rw [HR.out]; exact ⟨rfl, rfl⟩
      · have d2 : decide (9007199254740992 < k) = false := by simp; omega
        have hg := spn_good _ _ _ _ h1
        have hw1 : wrap64 (((bg (some p) : Nat) : Int) + k) = (p.1 : Int) + k := by
          show wrap64 ((p.1 : Int) + k) = _
          unfold wrap64 never at *; omega
        have HM := Lib.hid (mv_in (p := p) (k := k) (by omega))
        clear h1
        by_cases hn : p.2 = never
        · have hne := en_beq p hn
          have HO := Lib.hid (show mk ((p.1 : Int) + k) ((en (some p) : Nat) : Int) = mv (some p) k by rw [HM.out, if_pos hn]; show mk _ ((p.2 : Nat) : Int) = _; rw [hn])
          clear hn hg hk1 hk2
          go_enter Try.func14, Try.ntmps14
          go_wp2_with fail
          refine (right_at _ _ _ _ H1.out).mono ?_
          rintro e w' ⟨rfl, rfl⟩
          go_wp2_with fail
          refine (end_at _ _ _ _ H1.out).mono ?_
          rintro e w' ⟨rfl, rfl⟩
          go_wp2_with fail
          refine (begin_at _ _ _ _ H1.out).mono ?_
          rintro e w' ⟨rfl, rfl⟩
          go_wp2_with fail
          refine (of_at _ _ _ _ HO.out).mono ?_
          rintro e w' ⟨rfl, rfl⟩
          unfold ans
          go_wp2
          go_ret2
          exact ⟨rfl, rfl⟩
        · have hne := en_bne p hn
          have hw2 : wrap64 (((en (some p) : Nat) : Int) + k) = (p.2 : Int) + k := by
            show wrap64 ((p.2 : Int) + k) = _
            unfold wrap64 never at *; omega
          have HO := Lib.hid (show mk ((p.1 : Int) + k) ((p.2 : Int) + k) = mv (some p) k by rw [HM.out, if_neg hn])
          clear hn hg hk1 hk2
          go_enter Try.func14, Try.ntmps14
          go_wp2_with fail
          refine (right_at _ _ _ _ H1.out).mono ?_
          rintro e w' ⟨rfl, rfl⟩
          go_wp2_with fail
          refine (end_at _ _ _ _ H1.out).mono ?_
          rintro e w' ⟨rfl, rfl⟩
          go_wp2_with fail
          refine (begin_at _ _ _ _ H1.out).mono ?_
          rintro e w' ⟨rfl, rfl⟩
          go_wp2_with fail
          refine (of_at _ _ _ _ HO.out).mono ?_
          rintro e w' ⟨rfl, rfl⟩
          unfold ans
          go_wp2
          go_ret2
          exact ⟨rfl, rfl⟩
end Go.Proofs.Ytadendkkcdaleaa
