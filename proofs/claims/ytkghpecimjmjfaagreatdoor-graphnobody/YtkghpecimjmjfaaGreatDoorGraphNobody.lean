/-
  The walk of GraphNobody.
-/
import Derived.Test.YtkghpecimjmjfaaGreatDoorJEd
namespace Go.Proofs.YtkghpecimjmjfaaGreatDoor.En
open Go.RowKit
attribute [local go_sem ↓] Go.wp_at_zero Go.wp_at_succ
theorem build_val0 (w : World) : (Instr.build 62 #[]).run Tryz.prog w = .ok (.agg #[.int .i64 0, .int .i64 0]) w := by
  have hz := (zero_of_info val_info0).1
  unfold Instr.build
  simp only [Sem.run_bind, hz, run_underlying Tryz.underlying62, Result.andThen_ok]
  simp [Instr.fill, Value.cells]
/-- the zero engine, the row of both pointers, and nothing that was there is changed. -/
structure NSt (w : World) (x q : Nat) (W : World) : Prop where
  c : W.cell? ⟨x, 0, none⟩ = some (.int .i64 0)
  r : Tx.Blk W q #[.pointer none, .pointer (some ⟨x, 0, none⟩)] 24
  bel : Below w.heap.size w W
theorem NSt.below {w W W' : World} {x q : Nat} (h : NSt w x q W) (hb : Below W.heap.size W W') : NSt w x q W' := ⟨(hb.cell (Tx.cell_lt h.c)).trans h.c, h.r.below hb, h.bel.trans (hb.mono h.bel.size)⟩
theorem NSt.nob {w W : World} {x q k : Nat} (h : NSt w x q W) (hk : k < 2) : ∃ p, W.cell? ⟨q, k, none⟩ = some p ∧ Nob W p := by
  match k, hk with
  | 0, _ => exact ⟨_, h.r.cell 0, .inl rfl⟩
  | 1, _ => exact ⟨_, h.r.cell 1, .inr ⟨x, rfl, h.c⟩⟩
def NRel (w : World) (x q : Nat) (i : Value) (wr : World) : Prop := ∃ k : Nat, k ≤ 2 ∧ i = .int .i64 k ∧ NSt w x q wr
set_option maxHeartbeats 8000000 in
set_option maxRecDepth 100000 in
theorem graphNobody_walk (id x : Int) (w : World) (hT : TabAt w) :
    Calls Tryz.prog 8 #[.int .i64 id, .int .i64 x] w fun e w' => e = .returned (.bool true) ∧ Below w.heap.size w w' := by
  have HT := Lib.hid hT
  have hbv := build_val0
  have hz2 := (zero_of_info val_info0).1
  clear hT
  go_enter Tryz.func8, Tryz.ntmps8
  go_wp2_with fail
  refine (alive_any w HT.out).mono ?_
  rintro e w1 ⟨rfl, hb1⟩
  have HB1 := Lib.hid hb1
  clear hb1
  go_wp2
  have HS := Lib.hid (show NSt w w1.heap.size (w1.heap.size + 1) ((w1.alloc (.cells Tryz.zeroCells86 86)).alloc (.cells #[.pointer none, .pointer (some ⟨w1.heap.size, 0, none⟩)] 24)) from by
    have hb1 := Tx.below_new w1 (.cells Tryz.zeroCells86 86)
    have h0 : (w1.alloc (.cells Tryz.zeroCells86 86)).cell? ⟨w1.heap.size, 0, none⟩ = some (.int .i64 0) := by
      rw [cell_of_row _ w1.heap.size 0 _ 86 (0, 0) (Tx.Blk.new w1 Tryz.zeroCells86 86)]
      kernel_rfl
    have hb2 := Tx.below_new (w1.alloc (.cells Tryz.zeroCells86 86)) (.cells #[.pointer none, .pointer (some ⟨w1.heap.size, 0, none⟩)] 24)
    refine ⟨(hb2.cell (Tx.cell_lt h0)).trans h0, Tx.Blk.new' (Tx.size_new _ _) _ _, HB1.out.trans ((hb1.trans (hb2.mono hb1.size)).mono HB1.out.size)⟩)
  go_loopw [19] (NRel w w1.heap.size (w1.heap.size + 1)) (fun i _ => 2 - (intOf i).toNat)
  case atStart => exact ⟨0, Nat.zero_le _, rfl, HS.out⟩
  case round =>
    obtain ⟨k, hk, rfl, hst⟩ := hrel
    have HS1 := Lib.hid hst
    clear hst
    by_cases hlt : k < 2
    · obtain ⟨p, hp, hnob⟩ := HS1.out.nob hlt
      have hlt' : (k : Int) < 2 := by omega
      have HN1 := Lib.hid hnob
      clear hnob
      go_wp2_with fail
      refine (begin_nob _ HN1.out).mono ?_
      rintro e w2 ⟨rfl, hb⟩
      have HS2 := Lib.hid (HS1.out.below hb)
      have HN2 := Lib.hid (HN1.out.below hb)
      clear hb HS1 HN1 hp
      go_wp2_with fail
      refine (read_nob id x _ HN2.out).mono ?_
      rintro e w3 ⟨rfl, hb⟩
      have hb4 := hb.trans ((Tx.below_new w3 (.cells #[.int .i64 0, .int .i64 0] 62)).mono hb.size)
      have HS4 := Lib.hid (HS2.out.below hb4)
      have HN4 := Lib.hid (HN2.out.below hb4)
      clear hb hb4 HS2 HN2
      go_wp2_with fail
      generalize w3.alloc (.cells #[.int .i64 0, .int .i64 0] 62) = w4 at *
      refine (save_nob id _ HN4.out).mono ?_
      rintro e w5 ⟨rfl, hb⟩
      have HS5 := Lib.hid (HS4.out.below hb)
      have HN5 := Lib.hid (HN4.out.below hb)
      clear hb HS4 HN4
      go_wp2_with fail
      refine (write_nob id x 0 0 _ HN5.out).mono ?_
      rintro e w6 ⟨rfl, hb⟩
      have HS6 := Lib.hid (HS5.out.below hb)
      have HN6 := Lib.hid (HN5.out.below hb)
      clear hb HS5 HN5
      go_wp2_with fail
      refine (commit_nob id _ HN6.out).mono ?_
      rintro e w7 ⟨rfl, hb⟩
      have HS7 := Lib.hid (HS6.out.below hb)
      have HN7 := Lib.hid (HN6.out.below hb)
      clear hb HS6 HN6
      go_wp2_with fail
      refine (abort_nob id _ HN7.out).mono ?_
      rintro e w8 ⟨rfl, hb⟩
      have HS8 := Lib.hid (HS7.out.below hb)
      have HN8 := Lib.hid (HN7.out.below hb)
      clear hb HS7 HN7
      go_wp2_with fail
      refine (back_nob id x _ HN8.out).mono ?_
      rintro e w9 ⟨rfl, hb⟩
      have HS9 := Lib.hid (HS8.out.below hb)
      have HN9 := Lib.hid (HN8.out.below hb)
      clear hb HS8 HN8
      go_wp2_with fail
      refine (log_nob _ HN9.out).mono ?_
      rintro e wa ⟨rfl, hb⟩
      have HSA := Lib.hid (HS9.out.below hb)
      have HNA := Lib.hid (HN9.out.below hb)
      clear hb HS9 HN9
      go_wp2_with fail
      refine (rest_nob _ HNA.out).mono ?_
      rintro e wb ⟨rfl, hb⟩
      have HSB := Lib.hid (HSA.out.below hb)
      have HNB := Lib.hid (HNA.out.below hb)
      clear hb HSA HNA
      go_wp2_with fail
      refine (values_nob _ HNB.out).mono ?_
      rintro e wc ⟨rfl, hb⟩
      have HSC := Lib.hid (HSB.out.below hb)
      clear hb HSB HNB
      go_wp2
      exact ⟨⟨k + 1, by omega, by go_num, HSC.out⟩, by simp [intOf]; omega⟩
    · obtain rfl : k = 2 := by omega
      go_wp2
      go_ret
      exact ⟨rfl, HS1.out.bel⟩
end Go.Proofs.YtkghpecimjmjfaaGreatDoor.En
