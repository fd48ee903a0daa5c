/-
  A row of acts that is a part of what is handed in.
-/
import Derived.Test.YtakoceablbgchaaDoorPoolFrame
namespace Go.Proofs.YtakoceablbgchaaDoor
section
variable {H : Type} {enc : TypeId × Value → H} {w : World} {base : Nat} {spare : Nat → Bool} {held : Bool}
theorem open_acts_field {fuel : Nat} {v : Value} {x : DataW H × List MemPlace} (hf : DataW.trod enc Tryd.prog w base spare held fuel 22 [v] = some x) : ∃ a n c l, v = .slice a n c ∧ ActsAt w a n c l := by
  rcases Go.Deep.open_slice Tryd.underlying22 hf with ⟨hcs, _⟩ | ⟨ad, len, cap, m, k, D, Pl, hcs, _⟩
  · simp at hcs
    subst hcs
    obtain ⟨l, hl⟩ := open_acts' hf
    exact ⟨none, 0, 0, l, rfl, hl⟩
  · simp at hcs
    subst hcs
    obtain ⟨l, hl⟩ := open_acts' hf
    exact ⟨some ad, len, cap, l, rfl, hl⟩
end
end Go.Proofs.YtakoceablbgchaaDoor
