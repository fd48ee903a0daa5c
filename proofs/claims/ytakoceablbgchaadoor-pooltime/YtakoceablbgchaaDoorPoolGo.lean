/-
  The contract of pool.firstToGo.
-/
import Derived.Test.YtakoceablbgchaaDoorPoolBegin
namespace Go.Proofs.YtakoceablbgchaaDoor
open Go.RowKit
attribute [local go_sem ↓] Go.wp_at_zero Go.wp_at_succ
theorem index_ids (o : Od.O) (k : Nat) (h : k < 32) (w : World) : (Instr.index 28 (.agg (ordA o)) (.int .i64 (k : Nat))).run Tryd.prog w = .ok (.int .i64 (o k)) w := by
  have h1 : 0 ≤ (k : Int) ∧ (k : Int) < ((32 : Nat) : Int) := by omega
  simp only [Instr.index, asIntOf, Sem.run_bind, Sem.run_pure, Result.andThen_ok, run_underlying Tryd.underlying28, h1, size_int, Int.toNat_natCast, Nat.mul_one, run_part_plain w plain_int (ordA_get o k h), and_self, if_true]
def goV : Option Nat → Int | some s => (s : Int) | none => -1
def GoRel (p : Pl) (t : Nat) (w : World) (f i : Value) (wr : World) : Prop :=
  ∃ k : Nat, k ≤ 32 ∧ i = .int .i64 k ∧ f = .int .i64 (goV (Po.bestTo p k)) ∧ PSt p t w wr
theorem best_no {p : Pl} {k : Nat} (h : Po.goable p k = false) : Po.bestTo p (k + 1) = Po.bestTo p k := by rw [Po.bestTo, h]; rfl
theorem best_yes {p : Pl} {k : Nat} (h : Po.goable p k = true) (h2 : Po.better p k (Po.bestTo p k) = true) : Po.bestTo p (k + 1) = some k := by rw [Po.bestTo, h, h2]; rfl
theorem best_not {p : Pl} {k : Nat} (h2 : Po.better p k (Po.bestTo p k) = false) : Po.bestTo p (k + 1) = Po.bestTo p k := by rw [Po.bestTo, h2, Bool.and_false]; rfl
theorem has_nat_val (x k : Nat) (b : Bool) (w : World) (hx : x < 18446744073709551616) (hk : k < 64) (h : x.testBit k = b) :
    Calls Tryd.prog 23 #[.int .u64 x, .int .i64 (k : Nat)] w fun e w' => e = .returned (.bool b) ∧ w = w' :=
  hasI_val x (k : Nat) b w hx (by omega) (by omega) (by rw [Sm.has_nat _ hx]; exact h)
theorem ins_val (m : Mm.Gr) (a x : Nat) (w : World) (hm : Mm.Ok m) (ha : a < 32) (h : Mm.ins m a = x) :
    Calls Tryd.prog 17 #[.agg (matA m), .int .i64 (a : Nat)] w fun e w' => e = .returned (.int .u64 (x : Nat)) ∧ Below w.heap.size w w' := by
  have := ins_in m a w hm ha
  rw [h] at this; exact this
set_option maxHeartbeats 2000000 in
set_option maxRecDepth 100000 in
theorem firstToGo_any (p : Pl) (w : World) (hp : p.Ok) :
    Calls Tryd.prog 41 #[.agg (poolA p)] w fun e w' => e = .returned (.int .i64 (goV (Po.next p))) ∧ Below w.heap.size w w' := by
  have H0 := Lib.hid (pst_first p 31 w)
  have HP := Lib.hid hp
  clear hp
  go_enter Tryd.func41, Tryd.ntmps41
  go_wp2_with (refine load_ids rfl 28 (.tmp 6) rfl w.heap.size p 31 rfl _ H0.out.po Tryd.underlying28 rfl ints_info ?_)
  go_loopw [3, 8] (GoRel p 31 w) (fun _ i _ => 32 - (intOf i).toNat)
  case atStart => exact ⟨0, by omega, rfl, rfl, H0.out⟩
  case round =>
    obtain ⟨k, hk, rfl, rfl, hst⟩ := hrel
    have HS := Lib.hid hst
    clear hst
    by_cases hlt : k < 32
    · have hix := index_ids p.ids k hlt
      have hc := HS.out.po.done_
      cases hd : p.done.testBit k
      · have HD := Lib.hid hd
        have HG := Lib.hid (best_no (show Po.goable p k = false by unfold Po.goable; rw [hd]; rfl))
        clear hd
        go_wp2_with fail
        refine (has_nat_val p.done k false _ HP.out.done (by omega) HD.out).mono ?_
        rintro e w' ⟨rfl, rfl⟩
        go_wp2
        exact ⟨⟨k + 1, by omega, by go_num, by rw [HG.out], HS.out⟩, by simp [intOf]; omega⟩
      · have HD := Lib.hid hd
        clear hd
        go_wp2_with fail
        refine (has_nat_val p.done k true _ HP.out.done (by omega) HD.out).mono ?_
        rintro e w' ⟨rfl, rfl⟩
        go_wp2_with (refine load_m rfl 27 (.tmp 18) rfl w.heap.size p 31 rfl _ HS.out.po Tryd.underlying27 rfl mat_info ?_)
        by_cases hi : Mm.ins p.m k = 0
        · have HG := Lib.hid (show Po.goable p k = true by unfold Po.goable; rw [HD.out, hi]; rfl)
          refine (ins_val p.m k 0 _ HP.out.m hlt hi).mono ?_
          rintro e w2 ⟨rfl, hb2⟩
          have HS2 := Lib.hid (HS.out.below hb2)
          clear hb2 HS hc hi
          cases hb : Po.bestTo p k with
          | none =>
            have HB := Lib.hid (best_yes HG.out (show Po.better p k (Po.bestTo p k) = true by rw [hb]; rfl))
            clear hb
            simp only [goV]
            go_wp2
            exact ⟨⟨k + 1, by omega, by go_num, by rw [HB.out]; rfl, HS2.out⟩, by simp [intOf]; omega⟩
          | some f =>
            have hf : f < 32 := by have := (Po.bestTo_spec hb).1; omega
            have c1 := HS2.out.po.id_ f hf
            by_cases hlt2 : p.ids k < p.ids f
            · have HB := Lib.hid (best_yes HG.out (show Po.better p k (Po.bestTo p k) = true by rw [hb]; simp [Po.better, hlt2]))
              clear hb
              simp only [goV]
              go_wp2
              exact ⟨⟨k + 1, by omega, by go_num, by rw [HB.out]; rfl, HS2.out⟩, by simp [intOf]; omega⟩
            · have HB := Lib.hid (best_not (show Po.better p k (Po.bestTo p k) = false by rw [hb]; simp [Po.better]; omega))
              have HB2 := Lib.hid hb
              clear hb
              simp only [goV]
              go_wp2
              exact ⟨⟨k + 1, by omega, by go_num, by rw [HB.out, HB2.out]; rfl, HS2.out⟩, by simp [intOf]; omega⟩
        · have HG := Lib.hid (best_no (show Po.goable p k = false by unfold Po.goable; rw [decide_eq_false hi, Bool.and_false]))
          have hne : (((Mm.ins p.m k : Nat) : Int) != 0) = true := by simpa using hi
          refine (ins_val p.m k _ _ HP.out.m hlt rfl).mono ?_
          rintro e w2 ⟨rfl, hb2⟩
          have HS2 := Lib.hid (HS.out.below hb2)
          clear hb2 HS hc hi
          go_wp2
          exact ⟨⟨k + 1, by omega, by go_num, by rw [HG.out], HS2.out⟩, by simp [intOf]; omega⟩
    · obtain rfl : k = 32 := by omega
      go_wp2
      go_ret
      exact ⟨rfl, HS.out.bel⟩
end Go.Proofs.YtakoceablbgchaaDoor
