/-
  Proved: for any three pairs of whole numbers SpanJoins returns true, and its arguments read as before.
  Conditions: none.
-/
import Derived.Test.YtadendkkcdaleaaSpanFrame
import Derived.Test.YtadendkkcdaleaaSpanJoins
namespace Go.Proofs.Ytadendkkcdaleaa
namespace PspanJoins
open Go.ChangeShapes Go.WideShapes Go.ChangeAt Go.RowKit
open Go.ChangeMaps (open_string shut_string)
theorem walk (a0x0 a0x1 a1x0 a1x1 a2x0 a2x1 : Int) (w : World) (_ : (Lit.int .i64 a0x0).wf = true) (_ : (Lit.int .i64 a0x1).wf = true) (_ : (Lit.int .i64 a1x0).wf = true) (_ : (Lit.int .i64 a1x1).wf = true) (_ : (Lit.int .i64 a2x0).wf = true) (_ : (Lit.int .i64 a2x1).wf = true) :
    Calls Try.prog 6 #[.agg #[.int .i64 a0x0, .int .i64 a0x1], .agg #[.int .i64 a1x0, .int .i64 a1x1], .agg #[.int .i64 a2x0, .int .i64 a2x1]] w fun e w' => e = .returned (.bool true) ∧ Below w.heap.size w w' := spanJoins_walk _ _ _ _ _ _ w

theorem contract (H : Type) (enc : TypeId × Value → H) (W : World) (base : Nat) (args : Array Value) (ds gs : List (DataW H)) (before : List MemPlace)
    (hval : ∀ (j : Nat) t v, Try.f6.params[j]? = some t → args[j]? = some v → Value.okWide Try.prog W .any base t v)
    (hW : DataW.Whole enc Try.prog Try.f6.params.toList Rows.spanJoinsSpec.vars false W args.toList ds gs before) :
    Calls Try.prog 6 args W fun e W' => ∃ v, e = .returned v ∧ Rows.spanJoinsSpec.post enc Try.prog Try.f6 false true false false W args v W' := by
  have hW' := hW
  obtain ⟨p, q, hA0, hV, rfl, _, _⟩ := hW
  have hA : DataW.TrodAll enc Try.prog W 0 (fun _ => true) true Try.f6.params.toList args.toList ds p := hA0
  rw [Try.params6] at hA hval
  obtain ⟨v0, vs0, d0, ds0, p0, q0, hargs, rfl, rfl, h0, r0⟩ := trodAll_cons hA
  obtain ⟨v1, vs1, d1, ds1, p1, q1, rfl, rfl, rfl, h1, r1⟩ := trodAll_cons r0
  obtain ⟨v2, vs2, d2, ds2, p2, q2, rfl, rfl, rfl, h2, r2⟩ := trodAll_cons r1
  obtain ⟨rfl, rfl, rfl⟩ := trodAll_nil r2
  obtain rfl : args = #[v0, v1, v2] := by cases args; simp_all
  obtain ⟨rfl, rfl⟩ := trodVars_none hV
  have k0 := h0
  have lt0 : ∀ x ∈ p0, x.block < W.heap.size := by obtain ⟨m, hm⟩ := k0; exact DataW.trod_lt m _ _ _ hm
  obtain ⟨s0x0, s0x1, y0x0, y0x1, n0, rfl, _, _, t0x0, t0x1⟩ := Go.Joins.open_agg2 Try.underlying23 (by kernel_rfl) (by kernel_rfl) (hval 0 23 v0 rfl rfl) h0
  obtain ⟨a0x0, c0x0, _, w0x0⟩ := DataW.trod_int Try.underlying2 t0x0
  obtain rfl : s0x0 = .int .i64 a0x0 := by simpa using c0x0
  obtain ⟨a0x1, c0x1, _, w0x1⟩ := DataW.trod_int Try.underlying2 t0x1
  obtain rfl : s0x1 = .int .i64 a0x1 := by simpa using c0x1
  have k1 := h1
  have lt1 : ∀ x ∈ p1, x.block < W.heap.size := by obtain ⟨m, hm⟩ := k1; exact DataW.trod_lt m _ _ _ hm
  obtain ⟨s1x0, s1x1, y1x0, y1x1, n1, rfl, _, _, t1x0, t1x1⟩ := Go.Joins.open_agg2 Try.underlying23 (by kernel_rfl) (by kernel_rfl) (hval 1 23 v1 rfl rfl) h1
  obtain ⟨a1x0, c1x0, _, w1x0⟩ := DataW.trod_int Try.underlying2 t1x0
  obtain rfl : s1x0 = .int .i64 a1x0 := by simpa using c1x0
  obtain ⟨a1x1, c1x1, _, w1x1⟩ := DataW.trod_int Try.underlying2 t1x1
  obtain rfl : s1x1 = .int .i64 a1x1 := by simpa using c1x1
  have k2 := h2
  have lt2 : ∀ x ∈ p2, x.block < W.heap.size := by obtain ⟨m, hm⟩ := k2; exact DataW.trod_lt m _ _ _ hm
  obtain ⟨s2x0, s2x1, y2x0, y2x1, n2, rfl, _, _, t2x0, t2x1⟩ := Go.Joins.open_agg2 Try.underlying23 (by kernel_rfl) (by kernel_rfl) (hval 2 23 v2 rfl rfl) h2
  obtain ⟨a2x0, c2x0, _, w2x0⟩ := DataW.trod_int Try.underlying2 t2x0
  obtain rfl : s2x0 = .int .i64 a2x0 := by simpa using c2x0
  obtain ⟨a2x1, c2x1, _, w2x1⟩ := DataW.trod_int Try.underlying2 t2x1
  obtain rfl : s2x1 = .int .i64 a2x1 := by simpa using c2x1
  clear hA0
  refine (walk a0x0 a0x1 a1x0 a1x1 a2x0 a2x1 W w0x0 w0x1 w1x0 w1x1 w2x0 w2x1).mono fun e W' ⟨he, bel⟩ => ?_
  subst he
  exact ⟨_, rfl, _, _, _, [], _, [], hW', trodAll_mk1 (shut_bool Try.underlying4 _), (trodAll_cons_mk (Below.trod laidOut (by kernel_rfl) (of_decide_eq_true (by kernel_rfl)) k0 bel lt0) (trodAll_cons_mk (Below.trod laidOut (by kernel_rfl) (of_decide_eq_true (by kernel_rfl)) k1 bel lt1) (trodAll_cons_mk (Below.trod laidOut (by kernel_rfl) (of_decide_eq_true (by kernel_rfl)) k2 bel lt2) trodAll_mk0))), rfl, bel.frame _, fun h => by cases h⟩

set_option maxRecDepth 100000 in
theorem lifted (os : Os) (started : os.Started) (H : Type) (enc : TypeId × Value → H) :
    ReturnsInHanded {} Try.checked os 6 .any (Rows.spanJoinsSpec.pre6 enc Try.prog Try.f6 Rows.spanJoinsRow.domain false) (Rows.spanJoinsSpec.post enc Try.prog Try.f6 false true false false) := by
  refine returnsInHanded_of_change (C := Try.checked) own started (by kernel_rfl) Try.func6
    (ChangeSpec.witness6 (enc := enc) (C := Try.checked) false ⟨#[], #[.agg #[.int .i64 0, .int .i64 0], .agg #[.int .i64 0, .int .i64 0], .agg #[.int .i64 0, .int .i64 0]], []⟩ 8 (by kernel_rfl) (by kernel_rfl) (by kernel_rfl) (by kernel_rfl)) ?_
  intro W base args ds gs before hval hW _ _
  exact contract H enc W base args ds gs before hval hW
end PspanJoins
theorem spanJoins_holds : Rows.SpanJoinsSaid :=
  OpenClaim.holds_of_wide 6 Try.f6 rfl rfl rfl rfl rfl rfl rfl ⟨rfl, rfl, rfl, rfl, rfl⟩ rfl rfl rfl rfl rfl (by kernel_rfl) Try.func6 (by kernel_rfl)
    (of_decide_eq_true (by kernel_rfl)) (by unfold Func.isWrapper; first | (rw [if_pos (by decide +kernel)]; kernel_rfl) | (rw [if_neg (by decide +kernel)]; exact ⟨rfl, rfl⟩))
    (fun os started H enc _ => PspanJoins.lifted os started H enc)
#print axioms spanJoins_holds
end Go.Proofs.Ytadendkkcdaleaa
