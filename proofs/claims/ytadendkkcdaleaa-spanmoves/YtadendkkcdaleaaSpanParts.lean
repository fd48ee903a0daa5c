/-
  The walk of SpanParts: for any two pairs of whole numbers it answers true; nothing that was there is changed.
-/
import Derived.Test.YtadendkkcdaleaaSpanSame
namespace Go.Proofs.Ytadendkkcdaleaa
open Go.RowKit Fl
theorem ord_re {s t : Sp} (hs : Fl.Good s) (ht : Fl.Good t) : (FloatKind.f64.format.order (re_ s) (re_ t) == some .eq) = decide (bg s = bg t) := ord_same (part_re hs) (part_re ht)
theorem ord_im {s t : Sp} (hs : Fl.Good s) (ht : Fl.Good t) : (FloatKind.f64.format.order (im_ s) (im_ t) == some .eq) = decide (en s = en t) := ord_same (part_im hs) (part_im ht)
theorem ord_re_self {s : Sp} (hs : Fl.Good s) : FloatKind.f64.format.order (re_ s) (re_ s) = some .eq := ord_self (part_re hs)
theorem ord_im_self {s : Sp} (hs : Fl.Good s) : FloatKind.f64.format.order (im_ s) (im_ s) = some .eq := ord_self (part_im hs)
theorem mk_shape {b e : Int} {p : Nat × Nat} (h : mk b e = some p) : b = (p.1 : Int) ∧ e = (p.2 : Int) ∧ p.1 ≤ p.2 ∧ p.2 ≤ 9007199254740992 := by
  unfold mk at h
  split at h
  · simp at h; subst h; simp only; omega
  · cases h
set_option maxHeartbeats 1000000 in
set_option maxRecDepth 100000 in
theorem spanParts_walk (a b c d : Int) (w : World) :
    Calls Try.prog 8 #[.agg #[.int .i64 a, .int .i64 b], .agg #[.int .i64 c, .int .i64 d]] w fun e w' => e = .returned (.bool true) ∧ Below w.heap.size w w' := by
  cases h1 : mk a b with
  | none =>
    have H1 := Lib.hid h1
    have o0 := ord_self part_nought
    clear h1
    go_enter Try.func8, Try.ntmps8
    go_wp2_with fail
    refine (alive_any _).mono ?_
    rintro e w' ⟨rfl, rfl⟩
    go_wp2_with fail
    refine (two_at _ _ _ _ H1.out).mono ?_
    rintro e w' ⟨rfl, rfl⟩
    rw [ans_none]
    go_wp2_with fail
    refine (two_any _ _ _).mono ?_
    rintro e w' ⟨rfl, rfl⟩
    unfold ans
    go_wp2
    go_ret
    exact ⟨rfl, below4 _ _ _ _ _⟩
  | some p =>
    have g1 := mk_good a b
    rw [h1] at g1
    cases h2 : mk c d with
    | none =>
      have H1 := Lib.hid h1
      have H2 := Lib.hid h2
      have HS := Lib.hid (spn_ans g1)
      clear h1 h2 g1
      go_enter Try.func8, Try.ntmps8
      go_wp2_with fail
      refine (alive_any _).mono ?_
      rintro e w' ⟨rfl, rfl⟩
      go_wp2_with fail
      refine (two_at _ _ _ _ H1.out).mono ?_
      rintro e w' ⟨rfl, rfl⟩
      unfold ans
      go_wp2_with fail
      refine (two_at _ _ _ _ H2.out).mono ?_
      rintro e w' ⟨rfl, rfl⟩
      rw [ans_none]
      go_wp2_with fail
      refine (right_at _ _ _ _ HS.out).mono ?_
      rintro e w' ⟨rfl, rfl⟩
      go_wp2
      go_ret
      exact ⟨rfl, below4 _ _ _ _ _⟩
    | some q =>
      have g2 := mk_good c d
      rw [h2] at g2
      obtain ⟨rfl, rfl, e3, e4⟩ := mk_shape h1
      obtain ⟨rfl, rfl, f3, f4⟩ := mk_shape h2
      obtain ⟨pb, pe⟩ := p
      obtain ⟨qb, qe⟩ := q
      simp only at h1 h2 e3 e4 f3 f4 ⊢
      have H1 := Lib.hid h1
      have H2 := Lib.hid h2
      have HS := Lib.hid (spn_ans g1)
      have HM := Lib.hid (show mk ((bg (some (pb, pe)) : Nat) : Int) ((en (some (pb, pe)) : Nat) : Int) = some (pb, pe) from mk_nat e3 e4)
      have hle : bg (some (pb, pe)) ≤ en (some (pb, pe)) := e3
      have o1 := ord_re_self g1
      have o2 := ord_im_self g1
      have o3 : (FloatKind.f64.format.order (re_ (some (pb, pe))) (re_ (some (qb, qe))) == some .eq) = decide (pb = qb) := ord_re g1 g2
      have o4 : (FloatKind.f64.format.order (im_ (some (pb, pe))) (im_ (some (qb, qe))) == some .eq) = decide (pe = qe) := ord_im g1 g2
      clear h1 h2 g1 g2
      by_cases k1 : pb = qb
      · by_cases k2 : pe = qe
        · subst k1 k2
          clear o3 o4 H2
          go_enter Try.func8, Try.ntmps8
          go_wp2_with fail
          refine (alive_any _).mono ?_
          rintro e w' ⟨rfl, rfl⟩
          go_wp2_with fail
          refine (two_at _ _ _ _ H1.out).mono ?_
          rintro e w' ⟨rfl, rfl⟩
          unfold ans
          go_wp2_with fail
          refine (two_at _ _ _ _ H1.out).mono ?_
          rintro e w' ⟨rfl, rfl⟩
          unfold ans
          go_wp2_with fail
          refine (begin_at _ _ _ _ HS.out).mono ?_
          rintro e w' ⟨rfl, rfl⟩
          go_wp2_with fail
          refine (end_at _ _ _ _ HS.out).mono ?_
          rintro e w' ⟨rfl, rfl⟩
          go_wp2_with fail
          refine (of_at _ _ _ _ HM.out).mono ?_
          rintro e w' ⟨rfl, rfl⟩
          unfold ans
          go_wp2_with fail
          refine (begin_at _ _ _ _ HS.out).mono ?_
          rintro e w' ⟨rfl, rfl⟩
          go_wp2_with fail
          refine (end_at _ _ _ _ HS.out).mono ?_
          rintro e w' ⟨rfl, rfl⟩
          go_wp2
          go_ret
          exact ⟨rfl, below4 _ _ _ _ _⟩
        · subst k1
          clear o3
          rw [decide_eq_false k2] at o4
          have n2 : ((pe : Int) == (qe : Int)) = false := by simp; omega
          go_enter Try.func8, Try.ntmps8
          go_wp2_with fail
          refine (alive_any _).mono ?_
          rintro e w' ⟨rfl, rfl⟩
          go_wp2_with fail
          refine (two_at _ _ _ _ H1.out).mono ?_
          rintro e w' ⟨rfl, rfl⟩
          unfold ans
          go_wp2_with fail
          refine (two_at _ _ _ _ H2.out).mono ?_
          rintro e w' ⟨rfl, rfl⟩
          unfold ans
          go_wp2_with fail
          refine (begin_at _ _ _ _ HS.out).mono ?_
          rintro e w' ⟨rfl, rfl⟩
          go_wp2_with fail
          refine (end_at _ _ _ _ HS.out).mono ?_
          rintro e w' ⟨rfl, rfl⟩
          go_wp2_with fail
          refine (of_at _ _ _ _ HM.out).mono ?_
          rintro e w' ⟨rfl, rfl⟩
          unfold ans
          go_wp2_with fail
          refine (begin_at _ _ _ _ HS.out).mono ?_
          rintro e w' ⟨rfl, rfl⟩
          go_wp2_with fail
          refine (end_at _ _ _ _ HS.out).mono ?_
          rintro e w' ⟨rfl, rfl⟩
          go_wp2
          go_ret
          exact ⟨rfl, below4 _ _ _ _ _⟩
      · rw [decide_eq_false k1] at o3
        clear o4
        have n2 : ((pb : Int) == (qb : Int)) = false := by simp; omega
        go_enter Try.func8, Try.ntmps8
        go_wp2_with fail
        refine (alive_any _).mono ?_
        rintro e w' ⟨rfl, rfl⟩
        go_wp2_with fail
        refine (two_at _ _ _ _ H1.out).mono ?_
        rintro e w' ⟨rfl, rfl⟩
        unfold ans
        go_wp2_with fail
        refine (two_at _ _ _ _ H2.out).mono ?_
        rintro e w' ⟨rfl, rfl⟩
        unfold ans
        go_wp2_with fail
        refine (begin_at _ _ _ _ HS.out).mono ?_
        rintro e w' ⟨rfl, rfl⟩
        go_wp2_with fail
        refine (end_at _ _ _ _ HS.out).mono ?_
        rintro e w' ⟨rfl, rfl⟩
        go_wp2_with fail
        refine (of_at _ _ _ _ HM.out).mono ?_
        rintro e w' ⟨rfl, rfl⟩
        unfold ans
        go_wp2_with fail
        refine (begin_at _ _ _ _ HS.out).mono ?_
        rintro e w' ⟨rfl, rfl⟩
        go_wp2_with fail
        refine (end_at _ _ _ _ HS.out).mono ?_
        rintro e w' ⟨rfl, rfl⟩
        go_wp2
        go_ret
        exact ⟨rfl, below4 _ _ _ _ _⟩
end Go.Proofs.Ytadendkkcdaleaa
