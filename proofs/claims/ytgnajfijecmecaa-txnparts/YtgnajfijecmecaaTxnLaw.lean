/-
  What the walks of the statements share: the arguments and what is taken of them.
-/
import Derived.Test.YtgnajfijecmecaaTxnAlive
namespace Go.Proofs.Ytgnajfijecmecaa.Tx
open Go.RowKit
/-- a slice that came in reads as these steps. -/
def TxnArg (w : World) (A : Option Addr) (n c : Nat) (L : List Sp) : Prop := L.length = n ∧ n ≤ c ∧ c ≤ maxLen ∧ VarsAt w A L
/-- the argument, and the same transaction as the program has it. -/
structure LawSt (A T : Option Addr) (d : Nat) (L : List Sp) (w W : World) : Prop where
  arg : VarsAt W A L
  th : SlAt W T d L
  bel : Below w.heap.size w W
theorem LawSt.below {A T : Option Addr} {d : Nat} {L : List Sp} {w W W' : World} (h : LawSt A T d L w W) (hb : Below W.heap.size W W') : LawSt A T d L w W' :=
  ⟨h.arg.below hb (Nat.le_refl _), h.th.below hb, h.bel.trans (hb.mono h.bel.size)⟩
theorem reads_len (L : List Sp) : (readsL L).length ≤ 300 := by have := rise_len (rd1 L) 64; unfold readsL; omega
theorem writes_len (L : List Sp) : (writesL L).length ≤ 300 := by have := rise_len (wr1 L) 64; unfold writesL; omega
theorem writes_gone (A : Option Addr) (c : Nat) (L : List Sp) (w : World) (h : VarsAt w A (backL L 0)) (hl : (backL L 0).length ≤ 300) :
    Calls Try.prog 16 #[.slice A (backL L 0).length c] w fun e w' => ∃ T d, e = .returned (.slice T 0 d) ∧ Below w.heap.size w w' := by
  refine (writes_any A c (backL L 0) w h hl).mono ?_
  rintro e w' ⟨T, d, rfl, hv, hb⟩
  exact ⟨T, d, by rw [writes_none]; rfl, hb⟩
theorem reads_as (A : Option Addr) (c : Nat) (L M : List Sp) (w : World) (h : VarsAt w A L) (hl : L.length ≤ 300) (e : readsL L = M) : Calls Try.prog 17 #[.slice A L.length c] w (SlPost M w) := e ▸ reads_any A c L w h hl
theorem writes_as (A : Option Addr) (c : Nat) (L M : List Sp) (w : World) (h : VarsAt w A L) (hl : L.length ≤ 300) (e : writesL L = M) : Calls Try.prog 16 #[.slice A L.length c] w (SlPost M w) := e ▸ writes_any A c L w h hl
theorem back_as (A : Option Addr) (c k : Nat) (L M : List Sp) (w : World) (h : SlAt w A c L) (hl : L.length ≤ 300) (hk : k ≤ L.length) (e : backL L k = M) : Calls Try.prog 12 #[.slice A L.length c, .int .i64 (k : Nat)] w (AddPost M 0 w) := e ▸ back_yes A c k L w h.at_ h.le h.max hl hk
end Go.Proofs.Ytgnajfijecmecaa.Tx
