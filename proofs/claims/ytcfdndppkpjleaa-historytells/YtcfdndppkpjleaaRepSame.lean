/-
  The document's comparison of rows of entries that are the same; heavy.
-/
import Derived.Test.YtcfdndppkpjleaaRepEnts
import Derived.Deep.QuietTactic
import Derived.BigQuiet
import Derived.Laws.StructEq
namespace Go.Proofs.Ytcfdndppkpjleaa.Rp
open Go.RowKit Tx
def DrRel (n : Nat) (w : World) (i : Value) (wr : World) : Prop := ∃ k m : Nat, k ≤ n ∧ i = .int .i64 k ∧ wr = w.drewN m
theorem at4_drew {w : World} {A : Option Addr} {L : List Sp} (h : VarsAt w A L) (n : Nat) : VarsAt (w.drewN n) A L := h.below (Tx.below_drewN _ w n) (Nat.le_refl _)
set_option maxHeartbeats 1000000 in
theorem tsame_q (A B : Option Addr) (c d : Nat) (L : List Sp) (w : World) (hA : VarsAt w A L) (hB : VarsAt w B L) (hl : L.length ≤ 300) :
    Calls Try.prog 32 #[.slice A L.length c, .slice B L.length d] w fun e w' => e = .returned (.bool true) ∧ ∃ n, w' = w.drewN n := by
  have HA := Lib.hid hA
  have HB := Lib.hid hB
  clear hA hB
  go_enter Try.func32, Try.ntmps32
  go_wp2
  go_loopw [5] (DrRel L.length w) (fun i _ => L.length - (intOf i).toNat)
  case atStart => exact ⟨0, 0, Nat.zero_le _, rfl, rfl⟩
  case round =>
    obtain ⟨k, m, hk, rfl, rfl⟩ := hrel
    by_cases hlt : k < L.length
    · obtain ⟨ad, v, rfl, hv, hok, h5⟩ := HA.out.at_ hlt
      obtain ⟨ad', v', rfl, hv', hok', h5'⟩ := HB.out.at_ hlt
      obtain rfl : v = v' := Option.some.inj (hv.symm.trans hv')
      obtain ⟨c0, c1, c2, c3⟩ := h5
      obtain ⟨d0, d1, d2, d3⟩ := h5'
      clear hv hv' hok hok'
      have hlt' : (k : Int) < (L.length : Int) := by omega
      have h0 : (0 : Int) ≤ (k : Int) := by omega
      go_wp2
      go_quiet (fail)
      go_wp2
      go_round
      case rel => exact ⟨k + 1, _, by omega, by go_num, rfl⟩
      case measure => simp [intOf]; omega
    · go_wp2
      go_ret
      exact ⟨rfl, _, rfl⟩
set_option maxHeartbeats 4000000 in
set_option maxRecDepth 100000 in
theorem sameE_yes (A B : Option Addr) (c d : Nat) (X Y : List Xc) (L : List Ent) (w : World) (hA : ItAt w A X L) (hB : ItAt w B Y L) (hf : few L) (hl : L.length ≤ 10000) :
    Calls Try.prog 16 #[.slice A L.length c, .slice B L.length d] w fun e w' => e = .returned (.bool true) ∧ Below w.heap.size w w' := by
  have HA := Lib.hid hA
  have HB := Lib.hid hB
  have HF := Lib.hid hf
  clear hA hB hf
  go_enter Try.func16, Try.ntmps16
  go_wp2
  go_loopw [5] (fun i wr => ∃ k : Nat, k ≤ L.length ∧ i = .int .i64 k ∧ Below w.heap.size w wr) (fun i _ => L.length - (intOf i).toNat)
  case atStart => exact ⟨0, Nat.zero_le _, rfl, Below.refl _ _⟩
  case round =>
    obtain ⟨k, hk, rfl, hb⟩ := hrel
    have HW := Lib.hid hb
    clear hb
    by_cases hlt : k < L.length
    · obtain ⟨ad, x, rfl, hX, hx, hr, h5⟩ := (HA.out.below HW.out (Nat.le_refl _)).at_ hlt
      obtain ⟨ad', y, rfl, hY, hy, hs, h6⟩ := (HB.out.below HW.out (Nat.le_refl _)).at_ hlt
      have he : x.e = y.e := Option.some.inj (hx.symm.trans hy)
      obtain ⟨c0, c1, c2, c3, c4⟩ := h5
      obtain ⟨d0, d1, d2, d3, d4⟩ := h6
      rw [← he] at d0 d1 d2 d3 d4
      have HR := Lib.hid hr
      have HS := Lib.hid (show VarsAt wr y.A x.e.rd ∧ VarsAt wr y.B x.e.wt by rw [he]; exact ⟨hs.rd.at_, hs.wt.at_⟩)
      have HFX := Lib.hid (HF.out x.e (List.mem_of_getElem? hx))
      clear hX hx hr hY hy hs he
      have hlt' : (k : Int) < (L.length : Int) := by omega
      have h0 : (0 : Int) ≤ (k : Int) := by omega
      go_wp2
      go_quiet ((first | (go_at_call 32; with_reducible exact Calls.quiet_of (tsame_q x.A y.A x.c y.c x.e.rd _ (at4_drew HR.out.rd.at_ _) (at4_drew HS.out.1 _) HFX.out.1)) | (go_at_call 32; with_reducible exact Calls.quiet_of (tsame_q x.B y.B x.d y.d x.e.wt _ (at4_drew HR.out.wt.at_ _) (at4_drew HS.out.2 _) HFX.out.2))))
      go_wp2
      go_round
      case rel => exact ⟨k + 1, by omega, by go_num, HW.out.trans (Tx.below_drewN _ _ _)⟩
      case measure => simp [intOf]; omega
    · go_wp2
      go_ret
      exact ⟨rfl, HW.out⟩
/-- are these too many to be asked? -/
def heavy (n : Nat) (l : List Ent) : Bool := l.any (fun e => decide (300 < e.rd.length) || decide (300 < e.wt.length)) || decide (100 < n) || decide (100 < l.length)
theorem heavy_no {n : Nat} {l : List Ent} (h : heavy n l = false) : few l ∧ n ≤ 100 ∧ l.length ≤ 100 := by
  unfold heavy at h
  simp only [Bool.or_eq_false_iff, decide_eq_false_iff_not, List.any_eq_false] at h
  refine ⟨fun e he => ?_, by omega, by omega⟩
  have := h.1.1 e he
  simp at this
  omega
def HvRel (l : List Ent) (w : World) (i : Value) (wr : World) : Prop := ∃ k : Nat, k ≤ l.length ∧ i = .int .i64 k ∧ Below w.heap.size w wr ∧ ∀ e ∈ l.take k, e.rd.length ≤ 300 ∧ e.wt.length ≤ 300
end Go.Proofs.Ytcfdndppkpjleaa.Rp
