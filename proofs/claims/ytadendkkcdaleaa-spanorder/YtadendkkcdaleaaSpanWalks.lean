/-
  Contracts of the functions of package span, and of math.Trunc that it calls: each returns what the plain mathematics says, and leaves the world as it was.
-/
import Derived.Test.YtadendkkcdaleaaProg
import Derived.Test.YtadendkkcdaleaaSpanMath
import Derived.WalkKit
import Derived.WalkLawsBesides
import Derived.Laws.Externs
import Derived.Lib.Hide
namespace Go.Proofs.Ytadendkkcdaleaa
open Go.RowKit Fl

theorem ret_bool {a b : Bool} (h : a = b) : Ending.returned (.bool a) = .returned (.bool b) := by rw [h]
theorem ret_int {k : IntKind} {a b : Int} (h : a = b) : Ending.returned (.int k a) = .returned (.int k b) := by rw [h]
theorem ret_val {a b : Value} (h : a = b) : Ending.returned a = .returned b := by rw [h]

theorem run_arch (x : Nat) (h : ∀ s t, Ieee.double.read x ≠ .nan s t) (w : World) : (callFunc 27 #[.float .f64 x]).run Try.prog w = .ok (.value (.float .f64 (trunc x))) w := by
  rw [run_callFunc_extern Try.func27 (by kernel_rfl) (by kernel_rfl) (by kernel_rfl) (e := Extern.MathFloor.toIntegral "math.archTrunc" .zero) (by kernel_rfl)]
  have e : (Extern.MathFloor.toIntegral "math.archTrunc" .zero #[.float .f64 x]).run Try.prog w = .ok (.float .f64 (trunc x)) w := by
    cases hh : Ieee.double.read x with
    | nan s t => exact absurd hh (h s t)
    | infinity s =>
      have hd : FloatKind.f64.decode x = .infinity s := hh
      unfold trunc
      rw [hh]
      show Sem.run Try.prog (Extern.MathFloor.toIntegral.match_1 (motive := fun _ => Sem Value) (FloatKind.f64.decode x) _ _) w = _
      rw [hd]
      rfl
    | number s m p =>
      have hd : FloatKind.f64.decode x = .number s m p := hh
      unfold trunc
      rw [hh]
      show Sem.run Try.prog (Extern.MathFloor.toIntegral.match_1 (motive := fun _ => Sem Value) (FloatKind.f64.decode x) _ _) w = _
      rw [hd]
      rfl
  rw [e]; rfl
set_option maxHeartbeats 400000 in
theorem trunc_any (x : Nat) (w : World) (h : ge0 x = true) :
    Calls Try.prog 26 #[.float .f64 x] w fun e w' => e = .returned (.float .f64 (trunc x)) ∧ w = w' := by
  have H := fun W => run_arch x (not_nan h) W
  clear h
  go_enter Try.func26, Try.ntmps26
  go_wp2
  go_ret
  exact ⟨rfl, rfl⟩
set_option maxHeartbeats 400000 in
theorem whole_any (x : Nat) (w : World) :
    Calls Try.prog 25 #[.float .f64 x] w fun e w' => e = .returned (.bool (prt x).isSome) ∧ w = w' := by
  have H := Lib.hid (whole_iff x)
  cases h0 : ge0 x
  · have HR := Lib.hid (show (prt x).isSome = false by
      cases h : (prt x).isSome
      · rfl
      · have := (H.out.1 h).1; rw [h0] at this; cases this)
    unfold ge0 at h0
    go_enter Try.func25, Try.ntmps25
    go_wp2
    go_ret
    rw [HR.out]; exact ⟨rfl, rfl⟩
  · have H0 := Lib.hid h0
    cases h1 : leN x
    · have HR := Lib.hid (show (prt x).isSome = false by
        cases h : (prt x).isSome
        · rfl
        · have := (H.out.1 h).2.1; rw [h1] at this; cases this)
      unfold ge0 at h0
      unfold leN at h1
      go_enter Try.func25, Try.ntmps25
      go_wp2
      go_ret
      rw [HR.out]; exact ⟨rfl, rfl⟩
    · have HR := Lib.hid (show isT x = (prt x).isSome by
        rw [Bool.eq_iff_iff, H.out]
        exact ⟨fun h => ⟨h0, h1, h⟩, fun h => h.2.2⟩)
      unfold ge0 at h0
      unfold leN at h1
      go_enter Try.func25, Try.ntmps25
      go_wp2_with (go_at_call 26; refine (trunc_any _ _ H0.out).mono ?_; rintro e w' ⟨rfl, rfl⟩)
      go_ret
      exact ⟨ret_bool HR.out, rfl⟩
theorem whole_at (x : Nat) (o : Option Nat) (w : World) (h : prt x = o) :
    Calls Try.prog 25 #[.float .f64 x] w fun e w' => e = .returned (.bool o.isSome) ∧ w = w' := by
  have := whole_any x w
  rwa [h] at this
set_option maxHeartbeats 400000 in
theorem right_any (re im : Nat) (w : World) :
    Calls Try.prog 21 #[.complex .f64 re im] w fun e w' => e = .returned (.bool (spn re im).isSome) ∧ w = w' := by
  cases h1 : prt re with
  | none =>
    have HR := Lib.hid (show spn re im = none by unfold spn; rw [h1])
    have H1 := Lib.hid h1
    clear h1
    go_enter Try.func21, Try.ntmps21
    go_wp2_with (go_at_call 25; refine (whole_at _ _ _ H1.out).mono ?_; rintro e w' ⟨rfl, rfl⟩)
    go_ret
    rw [HR.out]; exact ⟨rfl, rfl⟩
  | some b =>
    cases h2 : prt im with
    | none =>
      have HR := Lib.hid (show spn re im = none by unfold spn; rw [h1, h2])
      have H1 := Lib.hid h1
      have H2 := Lib.hid h2
      clear h1 h2
      go_enter Try.func21, Try.ntmps21
      go_wp2_with fail
      refine (whole_at _ _ _ H1.out).mono ?_
      rintro e w' ⟨rfl, rfl⟩
      go_wp2_with fail
      refine (whole_at _ _ _ H2.out).mono ?_
      rintro e w' ⟨rfl, rfl⟩
      go_wp2
      go_ret
      rw [HR.out]; exact ⟨rfl, rfl⟩
    | some e =>
      have HR := Lib.hid (show (ord re im == some .lt || ord re im == some .eq) = (spn re im).isSome by
        rw [ord_le h1 h2]; unfold spn; rw [h1, h2]
        by_cases h : b ≤ e <;> simp [h])
      have H1 := Lib.hid h1
      have H2 := Lib.hid h2
      clear h1 h2
      go_enter Try.func21, Try.ntmps21
      go_wp2_with fail
      refine (whole_at _ _ _ H1.out).mono ?_
      rintro e w' ⟨rfl, rfl⟩
      go_wp2_with fail
      refine (whole_at _ _ _ H2.out).mono ?_
      rintro e w' ⟨rfl, rfl⟩
      go_wp2
      go_ret
      exact ⟨ret_bool HR.out, rfl⟩
theorem right_at (re im : Nat) (o : Sp) (w : World) (h : spn re im = o) :
    Calls Try.prog 21 #[.complex .f64 re im] w fun e w' => e = .returned (.bool o.isSome) ∧ w = w' := by
  have := right_any re im w
  rwa [h] at this
theorem conv_part {x n : Nat} (h : prt x = some n) (w : World) : (convert 39 2 (.float .f64 x)).run Try.prog w = .ok (.int .i64 (n : Int)) w :=
  run_convert_float_int w 39 2 .f64 .i64 x n (by rw [Try.underlying39]; rfl) Try.underlying2 (toInt_part (part_iff.1 h))
set_option maxHeartbeats 400000 in
theorem begin_at (re im : Nat) (o : Sp) (w : World) (h : spn re im = o) :
    Calls Try.prog 22 #[.complex .f64 re im] w fun e w' => e = .returned (.int .i64 (bg o)) ∧ w = w' := by
  cases o with
  | none =>
    have H := Lib.hid h
    clear h
    go_enter Try.func22, Try.ntmps22
    go_wp2_with (go_at_call 21; refine (right_at _ _ _ _ H.out).mono ?_; rintro e w' ⟨rfl, rfl⟩)
    go_ret
    exact ⟨rfl, rfl⟩
  | some p =>
    obtain ⟨b, e⟩ := p
    have H := Lib.hid h
    have hc := fun W => conv_part (spn_some.1 h).1 W
    clear h
    go_enter Try.func22, Try.ntmps22
    go_wp2_with (go_at_call 21; refine (right_at _ _ _ _ H.out).mono ?_; rintro e w' ⟨rfl, rfl⟩)
    go_ret
    exact ⟨rfl, rfl⟩
set_option maxHeartbeats 400000 in
theorem end_at (re im : Nat) (o : Sp) (w : World) (h : spn re im = o) :
    Calls Try.prog 23 #[.complex .f64 re im] w fun e w' => e = .returned (.int .i64 (en o)) ∧ w = w' := by
  cases o with
  | none =>
    have H := Lib.hid h
    clear h
    go_enter Try.func23, Try.ntmps23
    go_wp2_with (go_at_call 21; refine (right_at _ _ _ _ H.out).mono ?_; rintro e w' ⟨rfl, rfl⟩)
    go_ret
    exact ⟨rfl, rfl⟩
  | some p =>
    obtain ⟨b, e⟩ := p
    have H := Lib.hid h
    have hc := fun W => conv_part (spn_some.1 h).2.1 W
    clear h
    go_enter Try.func23, Try.ntmps23
    go_wp2_with (go_at_call 21; refine (right_at _ _ _ _ H.out).mono ?_; rintro e w' ⟨rfl, rfl⟩)
    go_ret
    exact ⟨rfl, rfl⟩
end Go.Proofs.Ytadendkkcdaleaa
