/-
  The contract of run.
-/
import Derived.Test.YtfdfiiocccafkaaGreatDoorJEd
namespace Go.Proofs.YtfdfiiocccafkaaGreatDoor.En
open Go.RowKit
attribute [local go_sem ↓] Go.wp_at_zero Go.wp_at_succ
theorem new_liveI (n v : Int) (w : World) (hn : 1 ≤ n ∧ n ≤ 32) (hv : 0 ≤ v ∧ v ≤ 64) : Calls Tryz.prog 6 #[.int .i64 n, .int .i64 v] w fun e w' => ∃ b, e = .returned (.pointer (some ⟨b, 0, none⟩)) ∧ Live w (fun _ => False) b 0 0 (new n v) w' := by
  obtain ⟨k, rfl⟩ := Int.eq_ofNat_of_zero_le hv.1
  exact new_live n k w hn (by omega)
/-- a world behind the first look: the engine is as new as before it. -/
theorem Live.since {w w1 w2 : World} {P : Nat → Prop} {b N : Nat} {K : Int} {g : Eng} (hb : Below w.heap.size w w1) (h : Live w1 P b N K g w2) : Live w P b N K g w2 := by
  obtain ⟨F, hE, hF⟩ := h.ex
  exact ⟨⟨F, hE, fun k hk => ⟨Nat.le_trans hb.size (hF k hk).1, (hF k hk).2⟩⟩, hb.trans (h.bel.mono hb.size), h.pl, h.inv⟩
theorem gact_info : (Tryz.prog.info? 29).map (fun i => (i.zero, i.size)) = some (some (.agg #[.int .u8 0, .int .i64 0, .int .i64 0, .int .i64 0, .int .i64 0]), 5) := by kernel_rfl
end Go.Proofs.YtfdfiiocccafkaaGreatDoor.En
