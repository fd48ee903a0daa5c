/-
  HistoryGraph: who has to stand ahead of whom is the document's.
-/
import Derived.Test.YtcfdndppkpjleaaHRef5
import Derived.Test.YtcfdndppkpjleaaHLaw
import Derived.Test.YtcfdndppkpjleaaHEqM
namespace Go.Proofs.Ytcfdndppkpjleaa.Hi
open Go.RowKit
open Tx (i64p)
open Az
theorem size_set (w : World) : (sizeOf 48).run Try.prog w = .ok 1 w := by
  obtain ⟨i, hi⟩ := Option.isSome_iff_exists.1 info_set
  rw [run_sizeOf w hi, cells_set]
theorem index_mat (m : Mm.Gr) (k : Nat) (h : k < 32) (w : World) : (Instr.index 50 (.agg (matA m)) (.int .i64 (k : Nat))).run Try.prog w = .ok (.int .u64 (m k : Nat)) w := by
  have h1 : 0 ≤ (k : Int) ∧ (k : Int) < ((32 : Nat) : Int) := by omega
  simp only [Instr.index, asIntOf, Sem.run_bind, Sem.run_pure, Result.andThen_ok, run_underlying Try.underlying50, h1, size_set, Int.toNat_natCast, Nat.mul_one, run_part_plain w plain_set (matA_get m k h), and_self, if_true]
def upTo (m : Mm.Gr) (k : Nat) : Mm.Gr := fun i => if i < k then m i else 0
theorem upTo_step (m : Mm.Gr) (k i : Nat) : (if i = k then m k else upTo m k i) = upTo m (k + 1) i := by
  unfold upTo
  by_cases h : i = k
  · subst h; simp
  · by_cases h2 : i < k
    · simp [h, h2, show i < k + 1 from by omega]
    · simp [h, h2, show ¬ i < k + 1 from by omega]
def CopyRel (m : Mm.Gr) (t : Nat) (w : World) (i : Value) (wr : World) : Prop :=
  ∃ k : Nat, k ≤ 32 ∧ i = .int .i64 k ∧ MatAt wr (w.heap.size + 1) zeroM t ∧ MatAt wr (w.heap.size + 2) (upTo m k) t ∧ Below w.heap.size w wr
set_option maxHeartbeats 1000000 in
set_option maxRecDepth 100000 in
theorem ours_mat (m : Mm.Gr) (w : World) :
    Calls Try.prog 27 #[.agg (matA m)] w fun e w' => e = .returned (.agg (matA m)) ∧ Below w.heap.size w w' := by
  go_enter Try.func27, Try.ntmps27
  go_wp2_with (refine wpList_load_row rfl 50 (.tmp 1) rfl w.heap.size rfl 50 (matA m) (0, 0) _ (((matAt_new w m 50).alloc _).alloc _) Try.underlying50 rfl (matInfo m) ?_)
  go_loopw [7] (CopyRel m 54 w) (fun i _ => 32 - (intOf i).toNat)
  case atStart =>
    refine ⟨0, by omega, rfl, ?_, ?_, (((Below.refl _ _).alloc (Nat.le_refl _) _).alloc (by simp) _).alloc (by simp; omega) _⟩
    · refine MatAt.alloc ?_ _
      have := zero_lit (w.alloc (.cells (matA m) 50)) 54
      have h2 : MatAt ((w.alloc (.cells (matA m) 50)).alloc (.cells (Array.replicate 32 (Value.int .u64 0)) 54)) (w.heap.size + 1) zeroM 54 := by simpa using this
      exact h2
    · have := zero_lit ((w.alloc (.cells (matA m) 50)).alloc (.cells (Array.replicate 32 (Value.int .u64 0)) 54)) 54
      have h2 : MatAt (((w.alloc (.cells (matA m) 50)).alloc (.cells (Array.replicate 32 (Value.int .u64 0)) 54)).alloc (.cells (Array.replicate 32 (Value.int .u64 0)) 54)) (w.heap.size + 2) zeroM 54 := by simpa using this
      exact h2.ext fun i _ => by simp [upTo, zeroM]
  case round =>
    obtain ⟨k, hk, rfl, h1, h2, hb⟩ := hrel
    have H1 := Lib.hid h1
    have H2 := Lib.hid h2
    by_cases hlt : k < 32
    · have hg := index_mat m k hlt
      have hc := h2.cell k hlt
      have hf := h2.frozen k
      clear h1 h2
      go_wp2
      refine ⟨⟨k + 1, by omega, by go_num, ?_, ?_, hb.setCell (by simp; omega) _⟩, by simp [intOf]; omega⟩
      · exact H1.out.setCell _ _ (by simp)
      · exact (matAt_cell H2.out).ext fun i _ => upTo_step m k i
    · obtain rfl : k = 32 := by omega
      clear h1 h2
      go_wp2_with (first
        | (refine wpList_load_row rfl 54 (.tmp 3) rfl (w.heap.size + 2) rfl 54 _ (0, 0) _ H2.out Try.underlying54 rfl (rmatInfo _) ?_)
        | (refine wpList_store_row rfl 54 (.tmp 2) (.tmp 15) rfl (w.heap.size + 1) _ rfl rfl 54 _ H1.out (rmatInfo _) (by rw [matA_size, matA_size]) (matA_one _) ?_))
      rw [matA_ext (m := upTo m 32) (n := m) (fun i hi => by simp [upTo, hi])]
      refine bodyPost_ret (results_cell_row rfl _ _ (w.heap.size + 1) 54 (matA m) (0, 0) _ rfl (setRow_heap _ _ _ _ _ _ H1.out) Try.underlying54 rfl (rmatInfo _)) rfl ⟨rfl, ?_⟩
      exact setRow_below hb (by omega)
theorem is_same {m n : Mm.Gr} {G : Nat → Nat → Prop} (h : Is m G) (k : Is n G) : matA n = matA m := matA_ext fun i hi => (Nat.eq_of_testBit_eq fun j => by rw [Bool.eq_iff_iff, h.is i j hi, k.is i j hi]).symm
theorem guard_rmat : Try.prog.eqGuardType Try.prog.depth 54 = false := by kernel_rfl
theorem sameM_self (m : Mm.Gr) : sameM m m = true := (sameM_iff m m).2 fun _ _ => rfl
theorem yields_eq {ops : Array Oper} {S : World → Prop} {op : Oper} {a : Act} (hw : Region.wanted op (yielded ops a.tmps) = true) (t r : TypeId) (x y : Operand) (ho : op.op = .binOp .eql t x y r)
    (cs : Array Value) (hx : a.eval x = .agg cs) (hy : a.eval y = .agg cs) (hg : Try.prog.eqGuardType Try.prog.depth t = false) (h : ∀ w, (Op.equalIn 10000 t (.agg cs) (.agg cs)).run Try.prog w = .ok true w) : YieldsIf Try.prog ops S op (.bool true) a :=
  .inl ⟨hw, fun w _ => by
    unfold execOp; simp only [ho, hx, hy]
    rw [Sem.run_bind, Sem.run_bind, run_eqGuard_agg w .eql t x y cs cs hg, Result.andThen_ok, run_eql_struct, h, Result.andThen_ok]; rfl⟩
/-- both boxes, and all that lay there. -/
structure G2 (w : World) (q r : Nat) (m : Mm.Gr) (W : World) : Prop where
  b3 : MatAt W q m 50
  b5 : MatAt W r m 54
  bel : Below w.heap.size w W
theorem G2.below {w : World} {q r : Nat} {m : Mm.Gr} {W W' : World} (h : G2 w q r m W) (hb : Below W.heap.size W W') : G2 w q r m W' := ⟨h.b3.below hb, h.b5.below hb, h.bel.trans (hb.mono h.bel.size)⟩
theorem G2.drew {w : World} {q r : Nat} {m : Mm.Gr} {W : World} (h : G2 w q r m W) : G2 w q r m W.drew := h.below (Below.refl _ _).drew
theorem any_box (w1 : World) (m : Mm.Gr) (z : Array Value) (t : Nat) : MatAt ((w1.alloc (.cells z t)).setRow w1.heap.size (matA m)) w1.heap.size m t ∧ Below w1.heap.size w1 ((w1.alloc (.cells z t)).setRow w1.heap.size (matA m)) :=
  ⟨setRow_heap _ _ _ _ _ _ (heap_alloc_new _ _), setRow_below (Rn.below_new _ _) (Nat.le_refl _)⟩
set_option maxRecDepth 100000 in
set_option maxHeartbeats 8000000 in
theorem historyGraph_walk (A : Option Addr) (n c : Nat) (L : List Ev) (w : World) (h : EvArg w A n c L) :
    Calls Try.prog 4 #[.slice A n c] w fun e w' => e = .returned (.bool true) ∧ Below w.heap.size w w' := by
  obtain ⟨rfl, hnc, hcm, hat, hok⟩ := h
  have H := Lib.hid hat
  have HOK := Lib.hid hok
  have HC := Lib.hid (show L.length ≤ c ∧ c ≤ maxLen from ⟨hnc, hcm⟩)
  have hN : (L.length : Int) ≤ 9223372036854775807 := by unfold maxLen at hcm; omega
  clear hat hok hnc hcm
  by_cases hl : L.length ≤ 120
  · have HL := Lib.hid (show L.length ≤ 2000 from by omega)
    have HL3 := Lib.hid (show L.length ≤ 300 from by omega)
    go_enter Try.func4, Try.ntmps4
    go_wp2_with fail
    refine (alive_any _).mono ?_
    rintro r w1 ⟨rfl, hb1⟩
    have HB1 := Lib.hid hb1
    have HA1 := Lib.hid (at_below H.out hb1)
    clear hb1
    go_wp2_with fail
    refine (theirs_any A c L _ HA1.out HL3.out).mono ?_
    rintro r w2 ⟨B2, d2, rfl, _, _, hat2, hb2⟩
    have HB2 := Lib.hid (HB1.out.trans (hb2.mono HB1.out.size))
    have HA2 := Lib.hid hat2
    clear hat2 hb2
    go_wp2_with fail
    refine (graph_any B2 d2 L _ HA2.out HOK.out HL.out).mono ?_
    rintro r w3 ⟨m, rfl, his, hb3⟩
    have HB3 := Lib.hid (HB2.out.trans (hb3.mono HB2.out.size))
    have HIS := Lib.hid his
    clear his hb3
    go_wp2_with (refine wpList_store_row rfl 50 (.tmp 3) (.tmp 16) rfl w3.heap.size (matA m) rfl rfl 50 _ (heap_alloc_new _ _) (matInfo m) (by rw [matA_size]; rfl) (matA_one _) ?_)
    generalize hw4 : World.setRow _ w3.heap.size (matA m) = w4
    have hmb : MatAt w4 w3.heap.size m 50 ∧ Below w3.heap.size w3 w4 := by rw [← hw4]; exact any_box w3 m _ _
    have HB4 := Lib.hid (HB3.out.trans (hmb.2.mono HB3.out.size))
    have HM4 := Lib.hid hmb.1
    clear hw4 hmb
    generalize w3.heap.size = q at HM4 ⊢
    refine (graph_r A c L _ (H.out.below HB4.out (Nat.le_refl _)) HL3.out HC.out.1 HC.out.2).mono ?_
    rintro r w5 ⟨m2, rfl, his2, hb5⟩
    have HB5 := Lib.hid (HB4.out.trans (hb5.mono HB4.out.size))
    have HM5 := Lib.hid (HM4.out.below hb5)
    rw [is_same HIS.out his2]
    clear his2 hb5
    go_wp2_with (refine wpList_store_row rfl 54 (.tmp 5) (.tmp 21) rfl w5.heap.size (matA m) rfl rfl 54 _ (heap_alloc_new _ _) (rmatInfo m) (by rw [matA_size]; rfl) (matA_one _) ?_)
    generalize hw6 : World.setRow _ w5.heap.size (matA m) = w6
    have hmb : MatAt w6 w5.heap.size m 54 ∧ Below w5.heap.size w5 w6 := by rw [← hw6]; exact any_box w5 m _ _
    have HG := Lib.hid (show G2 w q w5.heap.size m w6 from ⟨HM5.out.below hmb.2, hmb.1, HB5.out.trans (hmb.2.mono HB5.out.size)⟩)
    clear hw6 hmb
    generalize w5.heap.size = q2 at HG ⊢
    generalize (crs L).isSome = b
    go_wp2
    refine wp_region_noPanic ?_
    refine region_z 10 (fun W => G2 w q q2 m W) 10 1000 rfl (by kernel_rfl) (by exact HG.out.drew) (fun hHeld => ?_)
    refine take_d [1, 3, 4, 5, 6, 7, 8, 9] 0 23 (.agg (matA m)) rfl rfl (by kernel_rfl) (by kernel_rfl) (by kernel_rfl) (by kernel_rfl) (fun _ _ _ h => h) (yields_mat rfl 50 (.tmp 3) rfl q rfl 50 m (fun W hW => hW.b3) Try.underlying50 (matInfo m)) hHeld ?_
    simp only [put_laws]
    refine take_d [3, 4, 5, 6, 7, 8, 9] 2 25 (.agg (matA m)) rfl rfl (by kernel_rfl) (by kernel_rfl) (by kernel_rfl) (by kernel_rfl) (fun _ _ _ h => h) (yields_mat rfl 54 (.tmp 5) rfl q2 rfl 54 m (fun W hW => hW.b5) Try.underlying54 (rmatInfo m)) hHeld ?_
    simp only [put_laws]
    refine anyZ_ready (rs := [1]) (by kernel_rfl) (by simp) ?_
    refine AllZ.cons rfl (fun K hK => ?_) AllZ.nil
    go_simp
    refine (ours_mat m _).mono ?_
    rintro e w9 ⟨rfl, hb⟩
    try go_simp
    have hPrev := hHeld
    have hHeld := hHeld.below hb
    clear hPrev
    refine hK.out _ _ hHeld (fun hHeld => ?_)
    clear hK K
    refine take_d [4, 5, 6, 7, 8, 9] 3 26 (.bool true) rfl rfl (by kernel_rfl) (by kernel_rfl) (by kernel_rfl) (by kernel_rfl) (fun _ _ _ h => h) (yields_eq rfl 54 54 (.tmp 24) (.tmp 25) rfl (matA m) rfl rfl guard_rmat (eq_rmat m m true (sameM_self m))) hHeld ?_
    simp only [put_laws]
    refine take_d [5, 6, 7, 8, 9] 4 27 (.bool true) rfl rfl (by kernel_rfl) (by kernel_rfl) (by kernel_rfl) (by kernel_rfl) (fun _ _ _ h => h) (Or.inl ⟨by rfl, by intro W hW; clear hW; go_simp⟩) hHeld ?_
    simp only [put_laws]
    refine take_d [7, 8, 9] 5 28 (.bool b) rfl rfl (by kernel_rfl) (by kernel_rfl) (by kernel_rfl) (by kernel_rfl) (fun _ _ _ h => h) (Or.inl ⟨by rfl, by intro W hW; clear hW; go_simp⟩) hHeld ?_
    simp only [put_laws]
    refine take_d [7, 8, 9] 6 29 (.bool b) rfl rfl (by kernel_rfl) (by kernel_rfl) (by kernel_rfl) (by kernel_rfl) (fun _ _ _ h => h) (Or.inl ⟨by rfl, by intro W hW; clear hW; go_simp⟩) hHeld ?_
    simp only [put_laws]
    refine take_d [8, 9] 7 30 (.bool true) rfl rfl (by kernel_rfl) (by kernel_rfl) (by kernel_rfl) (by kernel_rfl) (fun _ _ _ h => h) (Or.inl ⟨by rfl, by intro W hW; clear hW; go_simp⟩) hHeld ?_
    simp only [put_laws]
    refine take_d [9] 8 31 (.bool true) rfl rfl (by kernel_rfl) (by kernel_rfl) (by kernel_rfl) (by kernel_rfl) (fun _ _ _ h => h) (Or.inl ⟨by rfl, by intro W hW; clear hW; go_simp⟩) hHeld ?_
    simp only [put_laws]
    refine take_d [] 9 2 (.bool true) rfl rfl (by kernel_rfl) (by kernel_rfl) (by kernel_rfl) (by kernel_rfl) (fun _ _ _ h => h) (Or.inl ⟨by rfl, by intro W hW; clear hW; go_simp⟩) hHeld ?_
    simp only [put_laws]
    refine anyZ_done (by kernel_rfl) ?_ _
    refine NoPanic.normal ?_
    have HH := Lib.hid hHeld
    clear hHeld
    go_wp2
    go_ret
    exact ⟨rfl, HH.out.bel⟩
  · have hl' : (L.length : Int) > 120 := by omega
    go_enter Try.func4, Try.ntmps4
    go_wp2_with fail
    refine (alive_any _).mono ?_
    rintro r w1 ⟨rfl, hb1⟩
    have HB1 := Lib.hid hb1
    clear hb1
    go_wp2
    go_ret
    exact ⟨rfl, HB1.out⟩
end Go.Proofs.Ytcfdndppkpjleaa.Hi
