/-
  The contract of the statements' own first look: the answers that the document fixes are given; the world is left as it was.
-/
import Derived.Test.YtadendkkcdaleaaSpanOps
namespace Go.Proofs.Ytadendkkcdaleaa
open Go.RowKit Fl
theorem lit_part (n x : Nat) (h : n ≤ never) (e : Ieee.double.nearest false n 0 = x) : prt x = some n := by rw [← e]; exact part_nat h
theorem p1 : prt 4607182418800017408 = some 1 := lit_part 1 _ (by decide) (by decide +kernel)
theorem p2 : prt 4611686018427387904 = some 2 := lit_part 2 _ (by decide) (by decide +kernel)
theorem p3 : prt 4613937818241073152 = some 3 := lit_part 3 _ (by decide) (by decide +kernel)
theorem p4 : prt 4616189618054758400 = some 4 := lit_part 4 _ (by decide) (by decide +kernel)
theorem p5 : prt 4617315517961601024 = some 5 := lit_part 5 _ (by decide) (by decide +kernel)
theorem p9 : prt 4621256167635550208 = some 9 := lit_part 9 _ (by decide) (by decide +kernel)
theorem p1e6 : prt 4696837146684686336 = some 1000000 := lit_part 1000000 _ (by decide) (by decide +kernel)
theorem s13 : spn 4607182418800017408 4613937818241073152 = some (1, 3) := spn_some.2 ⟨p1, p3, by decide⟩
theorem s12 : spn 4607182418800017408 4611686018427387904 = some (1, 2) := spn_some.2 ⟨p1, p2, by decide⟩
theorem s49 : spn 4616189618054758400 4621256167635550208 = some (4, 9) := spn_some.2 ⟨p4, p9, by decide⟩
theorem s39 : spn 4613937818241073152 4621256167635550208 = some (3, 9) := spn_some.2 ⟨p3, p9, by decide⟩
theorem s01 : spn 0 4607182418800017408 = some (0, 1) := spn_some.2 ⟨part_nought, p1, by decide⟩
theorem s1e6 : spn 4696837146684686336 4696837146684686336 = some (1000000, 1000000) := spn_some.2 ⟨p1e6, p1e6, by decide⟩
theorem s31 : spn 4613937818241073152 4607182418800017408 = none := by unfold spn; rw [p3, p1]; rfl
theorem ord_self {x n : Nat} (h : prt x = some n) : FloatKind.f64.format.order x x = some .eq := by
  have := ord_same h h
  simpa using this
theorem of13 (w : World) : Calls Try.prog 24 #[.int .i64 1, .int .i64 3] w fun e w' => e = .returned (.tuple #[.complex .f64 4607182418800017408 4613937818241073152, .bool true]) ∧ w = w' := by
  have h := of_any 1 3 w
  rwa [show ans (mk 1 3) = .tuple #[.complex .f64 4607182418800017408 4613937818241073152, .bool true] by kernel_rfl] at h
theorem of31 (w : World) : Calls Try.prog 24 #[.int .i64 3, .int .i64 1] w fun e w' => e = .returned (.tuple #[.complex .f64 0 0, .bool false]) ∧ w = w' := of_any 3 1 w
theorem join1349 (w : World) : Calls Try.prog 13 #[.complex .f64 4607182418800017408 4613937818241073152, .complex .f64 4616189618054758400 4621256167635550208] w fun e w' => e = .returned (.tuple #[.complex .f64 4607182418800017408 4621256167635550208, .bool true]) ∧ w = w' := by
  have h := join_at _ _ _ _ _ _ w s13 s49
  rwa [show ans (jn (some (1, 3)) (some (4, 9))) = .tuple #[.complex .f64 4607182418800017408 4621256167635550208, .bool true] by kernel_rfl] at h
theorem move132 (w : World) : Calls Try.prog 14 #[.complex .f64 4607182418800017408 4613937818241073152, .int .i64 2] w fun e w' => e = .returned (.tuple #[.complex .f64 4613937818241073152 4617315517961601024, .bool true]) ∧ w = w' := by
  have h := move_at _ _ 2 _ w s13
  rwa [show ans (mv (some (1, 3)) 2) = .tuple #[.complex .f64 4613937818241073152 4617315517961601024, .bool true] by kernel_rfl] at h
set_option maxHeartbeats 1000000 in
set_option maxRecDepth 100000 in
theorem alive_any (w : World) : Calls Try.prog 9 #[] w fun e w' => e = .returned (.bool true) ∧ w = w' := by
  have o1 := ord_self p1
  have o3 := ord_self p3
  have o5 := ord_self p5
  have o9 := ord_self p9
  go_enter Try.func9, Try.ntmps9
  go_wp2_with fail
  refine (of13 _).mono ?_
  rintro e w' ⟨rfl, rfl⟩
  go_wp2_with fail
  refine (join1349 _).mono ?_
  rintro e w' ⟨rfl, rfl⟩
  go_wp2_with fail
  refine (move132 _).mono ?_
  rintro e w' ⟨rfl, rfl⟩
  go_wp2_with fail
  refine (of31 _).mono ?_
  rintro e w' ⟨rfl, rfl⟩
  go_wp2_with fail
  refine (right_at _ _ _ _ s13).mono ?_
  rintro e w' ⟨rfl, rfl⟩
  go_wp2_with fail
  refine (right_at _ _ _ _ s31).mono ?_
  rintro e w' ⟨rfl, rfl⟩
  go_wp2_with fail
  refine (begin_at _ _ _ _ s13).mono ?_
  rintro e w' ⟨rfl, rfl⟩
  rw [show ((bg (some (1, 3)) : Nat) : Int) = 1 from rfl]
  go_wp2_with fail
  refine (end_at _ _ _ _ s13).mono ?_
  rintro e w' ⟨rfl, rfl⟩
  rw [show ((en (some (1, 3)) : Nat) : Int) = 3 from rfl]
  go_wp2_with fail
  refine (before_val _ _ _ _ _ _ true _ s13 s49 (by decide)).mono ?_
  rintro e w' ⟨rfl, rfl⟩
  go_wp2_with fail
  refine (meet_val _ _ _ _ _ _ true _ s13 s39 (by decide)).mono ?_
  rintro e w' ⟨rfl, rfl⟩
  go_wp2
  go_ret
  exact ⟨rfl, rfl⟩
end Go.Proofs.Ytadendkkcdaleaa
