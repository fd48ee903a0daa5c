/-
  Contracts of topo.New, Right, Row, between.
-/
import Derived.Test.YtakoceablbgchaaDoorTopoBase
namespace Go.Proofs.YtakoceablbgchaaDoor
open Go.RowKit
/-- the first k places. -/
def newTo (k : Nat) : Od.O := fun i => if i < k then (i : Int) else 0
theorem newTo_step (k i : Nat) : Od.upd (newTo k) k (k : Nat) i = newTo (k + 1) i := by
  unfold Od.upd newTo
  by_cases h : i = k
  · subst h; simp
  · by_cases h2 : i < k
    · simp [h, h2, show i < k + 1 from by omega]
    · simp [h, h2, show ¬ i < k + 1 from by omega]
theorem newTo_all (i : Nat) (h : i < 32) : newTo 32 i = Od.newO i := by simp [newTo, Od.newO, h]
def NewRel (t : Nat) (w : World) (i : Value) (wr : World) : Prop :=
  ∃ k : Nat, k ≤ 32 ∧ i = .int .i64 k ∧ OrdAt wr w.heap.size zeroO t ∧ OrdAt wr (w.heap.size + 1) (newTo k) t ∧ Below w.heap.size w wr
theorem new_first (w : World) (t : Nat) : NewRel t w (.int .i64 0) ((w.alloc (.cells (Array.replicate 32 (Value.int .i64 0)) t)).alloc (.cells (Array.replicate 32 (Value.int .i64 0)) t)) := by
  refine ⟨0, by omega, rfl, (zeroO_lit w t).alloc _, ?_, ((Below.refl _ _).alloc (Nat.le_refl _) _).alloc (by simp) _⟩
  have := zeroO_lit (w.alloc (.cells (Array.replicate 32 (Value.int .i64 0)) t)) t
  have h2 : OrdAt ((w.alloc (.cells (Array.replicate 32 (Value.int .i64 0)) t)).alloc (.cells (Array.replicate 32 (Value.int .i64 0)) t)) (w.heap.size + 1) zeroO t := by simpa using this
  exact h2.ext fun i _ => by simp [newTo, zeroO]
set_option maxHeartbeats 1000000 in
set_option maxRecDepth 100000 in
theorem new_any (w : World) :
    Calls Tryd.prog 29 #[] w fun e w' => e = .returned (.agg (ordA Od.newO)) ∧ Below w.heap.size w w' := by
  go_enter Tryd.func29, Tryd.ntmps29
  go_wp2
  go_loopw [3] (NewRel 29 w) (fun i _ => 32 - (intOf i).toNat)
  case atStart => exact new_first w 29
  case round =>
    obtain ⟨k, hk, rfl, h0, h1, hb⟩ := hrel
    have H0 := Lib.hid h0
    have H1 := Lib.hid h1
    by_cases hlt : k < 32
    · have hc := h1.cell k hlt
      have hf := h1.frozen k
      clear h0 h1
      go_wp2
      refine ⟨⟨k + 1, by omega, by go_num, ?_, ?_, hb.setCell (by simp) _⟩, by simp [intOf]; omega⟩
      · exact H0.out.setCell _ _ (by simp)
      · exact (ordAt_cell H1.out).ext fun i _ => newTo_step k i
    · obtain rfl : k = 32 := by omega
      clear h0 h1
      go_wp2_with (first
        | (refine wpList_load_row rfl 29 (.tmp 1) rfl (w.heap.size + 1) rfl 29 _ (0, 0) _ H1.out Tryd.underlying29 rfl (ordInfo _) ?_)
        | (refine wpList_store_row rfl 29 (.tmp 0) (.tmp 10) rfl w.heap.size _ rfl rfl 29 _ H0.out (ordInfo _) (by rw [ordA_size, ordA_size]) (ordA_one _) ?_))
      rw [ordA_ext newTo_all]
      refine bodyPost_ret (results_cell_row rfl _ _ w.heap.size 29 (ordA Od.newO) (0, 0) _ rfl (setRow_heap _ _ _ _ _ _ H0.out) Tryd.underlying29 rfl (ordInfo _)) rfl ⟨rfl, ?_⟩
      exact setRow_below hb (by omega)
/- Right -/
theorem addr_at (g j : Nat) : (⟨g, 0, none⟩ : Addr).add j = ⟨g, j, none⟩ := by unfold Addr.add; split <;> simp_all
def ordL (o : Od.O) : List Int := (List.range 32).map o
theorem ordL_ints {w : World} {g : Nat} {o : Od.O} {t : Nat} (h : OrdAt w g o t) (ho : Od.Ok o) : IntsAt w (some ⟨g, 0, none⟩) 32 (ordL o) := by
  refine ⟨by simp [ordL], fun _ => ⟨_, rfl, fun j z hz => ?_⟩, fun z hz => ?_⟩
  · have hj : j < 32 := by
      have := (List.getElem?_eq_some_iff.1 hz).1
      simpa [ordL] using this
    have e : o j = z := by simpa [ordL, hj] using hz
    have := h.cell j hj
    rw [e] at this
    rw [addr_at]; exact this
  · simp only [ordL, List.mem_map, List.mem_range] at hz
    obtain ⟨i, hi, rfl⟩ := hz
    exact ho i hi
theorem right_full (o : Od.O) : (((Sm.ofL 0 (ordL o) : Nat) : Int) == 4294967295) = Od.rightB o := by
  rw [Bool.eq_iff_iff, Od.rightB_iff]
  have hl := Sm.ofL_lt (x := 0) (ordL o) (by decide)
  have htest : ∀ j, j < 64 → ((Sm.ofL 0 (ordL o)).testBit j = true ↔ ∃ i, i < 32 ∧ o i = (j : Int)) := fun j hj => by
    rw [Sm.ofL_test _ _ _ hj]
    simp [ordL]
  constructor
  · intro h p hp
    have e : Sm.ofL 0 (ordL o) = 4294967295 := by
      have := eq_of_beq h
      omega
    refine (htest p (by omega)).1 ?_
    rw [e, show (4294967295 : Nat) = 2 ^ 32 - 1 from rfl, Nat.testBit_two_pow_sub_one]
    simpa using hp
  · intro h
    have e : Sm.ofL 0 (ordL o) = 4294967295 := by
      apply Sm.ext; intro j
      rw [show (4294967295 : Nat) = 2 ^ 32 - 1 from rfl, Nat.testBit_two_pow_sub_one]
      by_cases hj : j < 64
      · rw [Bool.eq_iff_iff, htest j hj]
        simp
        constructor
        · rintro ⟨i, hi, e⟩
          exact (Od.Right.at_eq h hi e).1
        · intro hj; exact h j hj
      · rw [Sm.test_big hl (by omega)]
        simp; omega
    rw [e]; rfl
set_option maxHeartbeats 1000000 in
theorem right_any (o : Od.O) (w : World) (ho : Od.Ok o) :
    Calls Tryd.prog 77 #[.agg (ordA o)] w fun e w' => e = .returned (.bool (Od.rightB o)) ∧ Below w.heap.size w w' := by
  have HI := Lib.hid (ordL_ints (ordAt_new w o 29) ho)
  have HF := Lib.hid (right_full o)
  go_enter Tryd.func77, Tryd.ntmps77
  go_wp2_with (go_at_call 78; refine (of_any _ 32 32 _ _ (by decide) HI.out).mono ?_; rintro e w' ⟨rfl, rfl⟩)
  go_ret
  exact ⟨ret_bool HF.out, below_new _ _⟩
end Go.Proofs.YtakoceablbgchaaDoor
