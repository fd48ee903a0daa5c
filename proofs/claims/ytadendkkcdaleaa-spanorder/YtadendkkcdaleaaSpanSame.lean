/-
  The contract of the statements' own comparison of a number with the document's span: true where both are of one span, or both of none.
-/
import Derived.Test.YtadendkkcdaleaaSpanRef
import Derived.Deep.QuietTactic
import Derived.BigQuiet
namespace Go.Proofs.Ytadendkkcdaleaa
open Go.RowKit Fl
theorem quiet_left {P : Program} {f : FuncId} {args : Array Value} {w : World} {n : Nat} {v : Value}
    (h : Calls P f args (w.drewN n) fun e w' => e = .returned v ∧ w.drewN n = w') : Calls P f args (w.drewN n) fun e w'' => e = .returned v ∧ ∃ m, w'' = w.drewN m :=
  h.mono fun _ _ ⟨he, hm⟩ => ⟨he, n, hm.symm⟩
theorem below_drewN {B : Nat} {a w : World} (h : Below B a w) (n : Nat) : Below B a (w.drewN n) := ⟨h.os, h.tape, h.output, h.size, h.block⟩
theorem conv_re {o : Sp} (h : Fl.Good o) : FloatKind.f64.format.order (re_ o) (floatOfInt .f64 ((bg o : Nat) : Int)) = some .eq := by
  have h2 : prt (floatOfInt .f64 ((bg o : Nat) : Int)) = some (bg o) := by
    rw [floatOfInt_nat _ (by omega)]
    exact part_nat (part_iff.1 (part_re h)).1
  have := ord_same (part_re h) h2
  simpa [bg] using this
theorem conv_im {o : Sp} (h : Fl.Good o) : FloatKind.f64.format.order (im_ o) (floatOfInt .f64 ((en o : Nat) : Int)) = some .eq := by
  have h2 : prt (floatOfInt .f64 ((en o : Nat) : Int)) = some (en o) := by
    rw [floatOfInt_nat _ (by omega)]
    exact part_nat (part_iff.1 (part_im h)).1
  have := ord_same (part_im h) h2
  simpa [en] using this
theorem spn_ans {p : Nat × Nat} (h : Fl.Good (some p)) : spn (re_ (some p)) (im_ (some p)) = some p := spn_of h
set_option maxHeartbeats 1000000 in
theorem same_any (o : Sp) (w : World) (h : Fl.Good o) :
    Calls Try.prog 12 #[.complex .f64 (re_ o) (im_ o), .bool o.isSome, rv o] w fun en w' => en = .returned (.bool true) ∧ Below w.heap.size w w' := by
  unfold rv rc
  cases o with
  | none =>
    have o0 := ord_self part_nought
    rw [show re_ none = 0 from rfl, show im_ none = 0 from rfl]
    clear h
    go_enter Try.func12, Try.ntmps12
    go_wp2
    go_ret
    exact ⟨rfl, below1 _ _⟩
  | some p =>
    have o1 := conv_re h
    have o2 := conv_im h
    have HS := Lib.hid (spn_ans h)
    clear h
    go_enter Try.func12, Try.ntmps12
    go_wp2
    go_quiet ((first
      | (go_at_call 22; exact quiet_left (begin_at _ _ _ _ HS.out))
      | (go_at_call 23; exact quiet_left (end_at _ _ _ _ HS.out))
      | (go_at_call 21; exact quiet_left (right_at _ _ _ _ HS.out))))
    go_wp2
    go_ret
    exact ⟨rfl, below_drewN (below1 _ _) _⟩
end Go.Proofs.Ytadendkkcdaleaa
