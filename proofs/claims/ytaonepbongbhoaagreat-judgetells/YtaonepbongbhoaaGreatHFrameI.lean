/-
  How a row of whole numbers that came in is opened.
-/
import Derived.Test.YtaonepbongbhoaaGreatHFrame
import Derived.Test.YtaonepbongbhoaaGreatJudgeTells
namespace Go.Proofs.YtaonepbongbhoaaGreat
open Go.RowKit
/-- what is told of a slice of whole numbers that came in. -/
def IsRow (k : IntKind) (w : World) (a : Option Addr) (len cap : Nat) (zs : List Int) : Prop :=
  (a = none ∧ len = 0 ∧ cap = 0 ∧ zs = []) ∨
  ∃ x, a = some x ∧ len ≤ cap ∧ cap ≤ maxLen ∧ zs.length = cap ∧ (∀ i, i < zs.length → w.cell? (x.add i) = some (.int k (zs.getD i 0))) ∧ ∀ n ∈ zs, (Lit.int k n).wf = true
theorem flat_ints (L : List Int) : Rn.flat Hi.encI L = L.map (Value.int .i64) := by
  unfold Rn.flat
  induction L with
  | nil => rfl
  | cons x L ih => simp [ih]
theorem IsRow.arg {w : World} {a : Option Addr} {len cap : Nat} {zs : List Int} (h : IsRow .i64 w a len cap zs) : Jd.IntArg w a len cap (zs.take len) := by
  rcases h with ⟨rfl, rfl, rfl, rfl⟩ | ⟨x, rfl, hl, hm, hz, hc, hw⟩
  · exact ⟨rfl, Nat.le_refl _, by unfold maxLen; omega, Rn.At.nil _ _⟩
  · refine ⟨by rw [List.length_take]; omega, hl, hm, ⟨fun _ => ⟨x, rfl, fun j u hj => ?_⟩⟩⟩
    rw [flat_ints, List.getElem?_map, List.getElem?_take] at hj
    split at hj
    · rename_i hjl
      have hlt : j < zs.length := by omega
      rw [List.getElem?_eq_getElem hlt] at hj
      have hj := Option.some.inj hj
      rw [hc j hlt, ← hj]
      simp [List.getD, List.getElem?_eq_getElem hlt]
    · cases hj
end Go.Proofs.YtaonepbongbhoaaGreat
