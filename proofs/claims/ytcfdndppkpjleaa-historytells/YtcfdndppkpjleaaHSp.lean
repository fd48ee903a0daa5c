/-
  Contracts of the functions of package span, and of math.Trunc that it calls: each returns what the plain mathematics says, and leaves the world as it was.
-/
import Derived.Test.YtcfdndppkpjleaaProg
import Derived.Test.YtcfdndppkpjleaaSpanMath
import Derived.WalkKit
import Derived.WalkLawsBesides
import Derived.Laws.Externs
import Derived.Lib.Hide
import Derived.Below
import Derived.Laws.Rows
namespace Go.Proofs.Ytcfdndppkpjleaa.Cx
open Go.RowKit Fl

theorem ret_bool {a b : Bool} (h : a = b) : Ending.returned (.bool a) = .returned (.bool b) := by rw [h]
theorem ret_int {k : IntKind} {a b : Int} (h : a = b) : Ending.returned (.int k a) = .returned (.int k b) := by rw [h]
theorem ret_val {a b : Value} (h : a = b) : Ending.returned a = .returned b := by rw [h]

theorem run_arch (x : Nat) (h : ∀ s t, Ieee.double.read x ≠ .nan s t) (w : World) : (callFunc 72 #[.float .f64 x]).run Try.prog w = .ok (.value (.float .f64 (trunc x))) w := by
  rw [run_callFunc_extern Try.func72 (by kernel_rfl) (by kernel_rfl) (by kernel_rfl) (e := Extern.MathFloor.toIntegral "math.archTrunc" .zero) (by kernel_rfl)]
  have e : (Extern.MathFloor.toIntegral "math.archTrunc" .zero #[.float .f64 x]).run Try.prog w = .ok (.float .f64 (trunc x)) w := by
    cases hh : Ieee.double.read x with
    | nan s t => exact absurd hh (h s t)
    | infinity s =>
      have hd : FloatKind.f64.decode x = .infinity s := hh
      unfold trunc
      rw [hh]
      show Sem.run Try.prog (Extern.MathFloor.toIntegral.match_1 (motive := fun _ => Sem Value) (FloatKind.f64.decode x) _ _) w = _
      rw [hd]
      rfl
    | number s m p =>
      have hd : FloatKind.f64.decode x = .number s m p := hh
      unfold trunc
      rw [hh]
      show Sem.run Try.prog (Extern.MathFloor.toIntegral.match_1 (motive := fun _ => Sem Value) (FloatKind.f64.decode x) _ _) w = _
      rw [hd]
      rfl
  rw [e]; rfl
set_option maxHeartbeats 400000 in
theorem trunc_any (x : Nat) (w : World) (h : ge0 x = true) :
    Calls Try.prog 57 #[.float .f64 x] w fun e w' => e = .returned (.float .f64 (trunc x)) ∧ w = w' := by
  have H := fun W => run_arch x (not_nan h) W
  clear h
  go_enter Try.func57, Try.ntmps57
  go_wp2
  go_ret
  exact ⟨rfl, rfl⟩
set_option maxHeartbeats 400000 in
theorem whole_any (x : Nat) (w : World) :
    Calls Try.prog 43 #[.float .f64 x] w fun e w' => e = .returned (.bool (prt x).isSome) ∧ w = w' := by
  have H := Lib.hid (whole_iff x)
  cases h0 : ge0 x
  · have HR := Lib.hid (show (prt x).isSome = false by
      cases h : (prt x).isSome
      · rfl
      · have := (H.out.1 h).1; rw [h0] at this; cases this)
    unfold ge0 at h0
    go_enter Try.func43, Try.ntmps43
    go_wp2
    go_ret
    rw [HR.out]; exact ⟨rfl, rfl⟩
  · have H0 := Lib.hid h0
    cases h1 : leN x
    · have HR := Lib.hid (show (prt x).isSome = false by
        cases h : (prt x).isSome
        · rfl
        · have := (H.out.1 h).2.1; rw [h1] at this; cases this)
      unfold ge0 at h0
      unfold leN at h1
      go_enter Try.func43, Try.ntmps43
      go_wp2
      go_ret
      rw [HR.out]; exact ⟨rfl, rfl⟩
    · have HR := Lib.hid (show isT x = (prt x).isSome by
        rw [Bool.eq_iff_iff, H.out]
        exact ⟨fun h => ⟨h0, h1, h⟩, fun h => h.2.2⟩)
      unfold ge0 at h0
      unfold leN at h1
      go_enter Try.func43, Try.ntmps43
      go_wp2_with (go_at_call 57; refine (trunc_any _ _ H0.out).mono ?_; rintro e w' ⟨rfl, rfl⟩)
      go_ret
      exact ⟨ret_bool HR.out, rfl⟩
theorem whole_at (x : Nat) (o : Option Nat) (w : World) (h : prt x = o) :
    Calls Try.prog 43 #[.float .f64 x] w fun e w' => e = .returned (.bool o.isSome) ∧ w = w' := by
  have := whole_any x w
  rwa [h] at this
set_option maxHeartbeats 400000 in
theorem right_any (re im : Nat) (w : World) :
    Calls Try.prog 24 #[.complex .f64 re im] w fun e w' => e = .returned (.bool (spn re im).isSome) ∧ w = w' := by
  cases h1 : prt re with
  | none =>
    have HR := Lib.hid (show spn re im = none by unfold spn; rw [h1])
    have H1 := Lib.hid h1
    clear h1
    go_enter Try.func24, Try.ntmps24
    go_wp2_with (go_at_call 43; refine (whole_at _ _ _ H1.out).mono ?_; rintro e w' ⟨rfl, rfl⟩)
    go_ret
    rw [HR.out]; exact ⟨rfl, rfl⟩
  | some b =>
    cases h2 : prt im with
    | none =>
      have HR := Lib.hid (show spn re im = none by unfold spn; rw [h1, h2])
      have H1 := Lib.hid h1
      have H2 := Lib.hid h2
      clear h1 h2
      go_enter Try.func24, Try.ntmps24
      go_wp2_with fail
      refine (whole_at _ _ _ H1.out).mono ?_
      rintro e w' ⟨rfl, rfl⟩
      go_wp2_with fail
      refine (whole_at _ _ _ H2.out).mono ?_
      rintro e w' ⟨rfl, rfl⟩
      go_wp2
      go_ret
      rw [HR.out]; exact ⟨rfl, rfl⟩
    | some e =>
      have HR := Lib.hid (show (ord re im == some .lt || ord re im == some .eq) = (spn re im).isSome by
        rw [ord_le h1 h2]; unfold spn; rw [h1, h2]
        by_cases h : b ≤ e <;> simp [h])
      have H1 := Lib.hid h1
      have H2 := Lib.hid h2
      clear h1 h2
      go_enter Try.func24, Try.ntmps24
      go_wp2_with fail
      refine (whole_at _ _ _ H1.out).mono ?_
      rintro e w' ⟨rfl, rfl⟩
      go_wp2_with fail
      refine (whole_at _ _ _ H2.out).mono ?_
      rintro e w' ⟨rfl, rfl⟩
      go_wp2
      go_ret
      exact ⟨ret_bool HR.out, rfl⟩
theorem right_at (re im : Nat) (o : Sp) (w : World) (h : spn re im = o) :
    Calls Try.prog 24 #[.complex .f64 re im] w fun e w' => e = .returned (.bool o.isSome) ∧ w = w' := by
  have := right_any re im w
  rwa [h] at this
theorem conv_part {x n : Nat} (h : prt x = some n) (w : World) : (convert 92 2 (.float .f64 x)).run Try.prog w = .ok (.int .i64 (n : Int)) w :=
  run_convert_float_int w 92 2 .f64 .i64 x n (by rw [Try.underlying92]; rfl) Try.underlying2 (toInt_part (part_iff.1 h))
set_option maxHeartbeats 400000 in
theorem begin_at (re im : Nat) (o : Sp) (w : World) (h : spn re im = o) :
    Calls Try.prog 22 #[.complex .f64 re im] w fun e w' => e = .returned (.int .i64 (bg o)) ∧ w = w' := by
  cases o with
  | none =>
    have H := Lib.hid h
    clear h
    go_enter Try.func22, Try.ntmps22
    go_wp2_with (go_at_call 24; refine (right_at _ _ _ _ H.out).mono ?_; rintro e w' ⟨rfl, rfl⟩)
    go_ret
    exact ⟨rfl, rfl⟩
  | some p =>
    obtain ⟨b, e⟩ := p
    have H := Lib.hid h
    have hc := fun W => conv_part (spn_some.1 h).1 W
    clear h
    go_enter Try.func22, Try.ntmps22
    go_wp2_with (go_at_call 24; refine (right_at _ _ _ _ H.out).mono ?_; rintro e w' ⟨rfl, rfl⟩)
    go_ret
    exact ⟨rfl, rfl⟩
set_option maxHeartbeats 400000 in
theorem end_at (re im : Nat) (o : Sp) (w : World) (h : spn re im = o) :
    Calls Try.prog 23 #[.complex .f64 re im] w fun e w' => e = .returned (.int .i64 (en o)) ∧ w = w' := by
  cases o with
  | none =>
    have H := Lib.hid h
    clear h
    go_enter Try.func23, Try.ntmps23
    go_wp2_with (go_at_call 24; refine (right_at _ _ _ _ H.out).mono ?_; rintro e w' ⟨rfl, rfl⟩)
    go_ret
    exact ⟨rfl, rfl⟩
  | some p =>
    obtain ⟨b, e⟩ := p
    have H := Lib.hid h
    have hc := fun W => conv_part (spn_some.1 h).2.1 W
    clear h
    go_enter Try.func23, Try.ntmps23
    go_wp2_with (go_at_call 24; refine (right_at _ _ _ _ H.out).mono ?_; rintro e w' ⟨rfl, rfl⟩)
    go_ret
    exact ⟨rfl, rfl⟩
/-- what a call that answers a span, or none, returns. -/
def ans (o : Sp) : Value := .tuple #[.complex .f64 (re_ o) (im_ o), .bool o.isSome]
set_option maxHeartbeats 400000 in
theorem before_at (a b c d : Nat) (s t : Sp) (w : World) (h1 : spn a b = s) (h2 : spn c d = t) :
    Calls Try.prog 28 #[.complex .f64 a b, .complex .f64 c d] w fun e w' => e = .returned (.bool (bf s t)) ∧ w = w' := by
  have H1 := Lib.hid h1
  have H2 := Lib.hid h2
  cases s with
  | none =>
    clear h1 h2
    go_enter Try.func28, Try.ntmps28
    go_wp2_with (go_at_call 24; refine (right_at _ _ _ _ H1.out).mono ?_; rintro e w' ⟨rfl, rfl⟩)
    go_ret
    exact ⟨rfl, rfl⟩
  | some p =>
    cases t with
    | none =>
      clear h1 h2
      go_enter Try.func28, Try.ntmps28
      go_wp2_with fail
      refine (right_at _ _ _ _ H1.out).mono ?_
      rintro e w' ⟨rfl, rfl⟩
      go_wp2_with fail
      refine (right_at _ _ _ _ H2.out).mono ?_
      rintro e w' ⟨rfl, rfl⟩
      go_wp2
      go_ret
      exact ⟨rfl, rfl⟩
    | some q =>
      have HR := Lib.hid (show (ord b c == some .lt) = bf (some p) (some q) by
        rw [ord_lt (spn_some.1 h1).2.1 (spn_some.1 h2).1]; rfl)
      clear h1 h2
      go_enter Try.func28, Try.ntmps28
      go_wp2_with fail
      refine (right_at _ _ _ _ H1.out).mono ?_
      rintro e w' ⟨rfl, rfl⟩
      go_wp2_with fail
      refine (right_at _ _ _ _ H2.out).mono ?_
      rintro e w' ⟨rfl, rfl⟩
      go_wp2
      go_ret
      exact ⟨ret_bool HR.out, rfl⟩
theorem before_val (a b c d : Nat) (s t : Sp) (v : Bool) (w : World) (h1 : spn a b = s) (h2 : spn c d = t) (hv : bf s t = v) :
    Calls Try.prog 28 #[.complex .f64 a b, .complex .f64 c d] w fun e w' => e = .returned (.bool v) ∧ w = w' := by
  subst hv; exact before_at a b c d s t w h1 h2
theorem mk_none {b e : Int} (h : ¬ (0 ≤ b ∧ b ≤ e ∧ e ≤ 9007199254740992)) : mk b e = none := by unfold mk; rw [if_neg h]
theorem mk_some {b e : Int} (h : 0 ≤ b ∧ b ≤ e ∧ e ≤ 9007199254740992) : mk b e = some (b.toNat, e.toNat) := by unfold mk; rw [if_pos h]
set_option maxHeartbeats 400000 in
theorem of_any (b e : Int) (w : World) :
    Calls Try.prog 68 #[.int .i64 b, .int .i64 e] w fun en w' => en = .returned (ans (mk b e)) ∧ w = w' := by
  by_cases h1 : b < 0
  · have HR := Lib.hid (mk_none (b := b) (e := e) (by omega))
    go_enter Try.func68, Try.ntmps68
    go_wp2
    go_ret2
    rw [HR.out]; exact ⟨rfl, rfl⟩
  · have d1 : decide (b < 0) = false := by simp; omega
    by_cases h2 : e < b
    · have HR := Lib.hid (mk_none (b := b) (e := e) (by omega))
      clear h1
      go_enter Try.func68, Try.ntmps68
      go_wp2
      go_ret2
      rw [HR.out]; exact ⟨rfl, rfl⟩
    · have d2 : decide (e < b) = false := by simp; omega
      by_cases h3 : 9007199254740992 < e
      · have HR := Lib.hid (mk_none (b := b) (e := e) (by omega))
        clear h1 h2
        go_enter Try.func68, Try.ntmps68
        go_wp2
        go_ret2
        rw [HR.out]; exact ⟨rfl, rfl⟩
      · have d3 : decide (9007199254740992 < e) = false := by simp; omega
        have HR := Lib.hid (mk_some (b := b) (e := e) (by omega))
        have F1 := Lib.hid (floatOfInt_nat b (by omega))
        have F2 := Lib.hid (floatOfInt_nat e (by omega))
        clear h1 h2 h3
        go_enter Try.func68, Try.ntmps68
        go_wp2
        go_ret2
        rw [HR.out, F1.out, F2.out]; exact ⟨rfl, rfl⟩
theorem of_at (b e : Int) (o : Sp) (w : World) (h : mk b e = o) :
    Calls Try.prog 68 #[.int .i64 b, .int .i64 e] w fun en w' => en = .returned (ans o) ∧ w = w' := by
  subst h; exact of_any b e w
theorem ans_none : ans none = .tuple #[.complex .f64 0 0, .bool false] := rfl
/-- the document's span as a value. -/
def rc (o : Sp) : Array Value := #[.int .i64 (bg o), .int .i64 (en o), .bool o.isSome]
def rv (o : Sp) : Value := .agg (rc o)
theorem rspan_info : (Try.prog.info? 45).map (·.size) = some 3 := by kernel_rfl
theorem rc_none : rc none = #[.int .i64 0, .int .i64 0, .bool false] := rfl
theorem rc_mk {b e : Int} (h : 0 ≤ b ∧ b ≤ e ∧ e ≤ 9007199254740992) : rc (mk b e) = #[.int .i64 b, .int .i64 e, .bool true] := by
  rw [mk_some h]
  show #[Value.int .i64 ((b.toNat : Nat) : Int), .int .i64 ((e.toNat : Nat) : Int), .bool true] = _
  rw [Int.toNat_of_nonneg (by omega), Int.toNat_of_nonneg (by omega)]
set_option maxHeartbeats 400000 in
theorem rof_any (b e : Int) (w : World) :
    Calls Try.prog 42 #[.int .i64 b, .int .i64 e] w fun en w' => en = .returned (rv (mk b e)) ∧ w.alloc (.cells (rc (mk b e)) 45) = w' := by
  by_cases h1 : b < 0
  · have HR := Lib.hid (mk_none (b := b) (e := e) (by omega))
    go_enter Try.func42, Try.ntmps42
    go_wp2
    refine bodyPost_ret (results_cell_row rfl _ _ w.heap.size 45 _ (0, 0) _ rfl (heap_alloc_new _ _) Try.underlying45 rfl rspan_info) rfl ?_
    rw [HR.out]; exact ⟨rfl, rfl⟩
  · have d1 : decide (b < 0) = false := by simp; omega
    by_cases h2 : e < b
    · have HR := Lib.hid (mk_none (b := b) (e := e) (by omega))
      clear h1
      go_enter Try.func42, Try.ntmps42
      go_wp2
      refine bodyPost_ret (results_cell_row rfl _ _ w.heap.size 45 _ (0, 0) _ rfl (heap_alloc_new _ _) Try.underlying45 rfl rspan_info) rfl ?_
      rw [HR.out]; exact ⟨rfl, rfl⟩
    · have d2 : decide (e < b) = false := by simp; omega
      by_cases h3 : 9007199254740992 < e
      · have HR := Lib.hid (mk_none (b := b) (e := e) (by omega))
        clear h1 h2
        go_enter Try.func42, Try.ntmps42
        go_wp2
        refine bodyPost_ret (results_cell_row rfl _ _ w.heap.size 45 _ (0, 0) _ rfl (heap_alloc_new _ _) Try.underlying45 rfl rspan_info) rfl ?_
        rw [HR.out]; exact ⟨rfl, rfl⟩
      · have d3 : decide (9007199254740992 < e) = false := by simp; omega
        have HR := Lib.hid (rc_mk (b := b) (e := e) (by omega))
        clear h1 h2 h3
        go_enter Try.func42, Try.ntmps42
        go_wp2
        refine bodyPost_ret (results_cell_row rfl _ _ w.heap.size 45 _ (0, 0) _ rfl (heap_alloc_new _ _) Try.underlying45 rfl rspan_info) rfl ?_
        unfold rv
        rw [HR.out]; exact ⟨rfl, rfl⟩
theorem rof_at (b e : Int) (o : Sp) (w : World) (h : mk b e = o) :
    Calls Try.prog 42 #[.int .i64 b, .int .i64 e] w fun en w' => en = .returned (rv o) ∧ w.alloc (.cells (rc o) 45) = w' := by
  subst h; exact rof_any b e w
end Go.Proofs.Ytcfdndppkpjleaa.Cx
