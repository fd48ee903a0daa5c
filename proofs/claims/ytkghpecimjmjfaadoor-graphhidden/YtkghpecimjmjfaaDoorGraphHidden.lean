/-
  The walk of GraphHidden.
-/
import Derived.Test.YtkghpecimjmjfaaDoorJEd
import Derived.Test.YtkghpecimjmjfaaDoorGraphHidM
import Derived.Test.YtkghpecimjmjfaaDoorJStore
import Derived.Laws.StructEq
namespace Go.Proofs.YtkghpecimjmjfaaDoor.En
open Go.RowKit
attribute [local go_sem ↓] Go.wp_at_zero Go.wp_at_succ
theorem Live.since' {w w1 w2 : World} {P : Nat → Prop} {b N : Nat} {K : Int} {g : Eng} (hb : Below w.heap.size w w1) (h : Live w1 P b N K g w2) : Live w P b N K g w2 := by
  obtain ⟨F, hE, hF⟩ := h.ex
  exact ⟨⟨F, hE, fun k hk => ⟨Nat.le_trans hb.size (hF k hk).1, (hF k hk).2⟩⟩, hb.trans (h.bel.mono hb.size), h.pl, h.inv⟩
theorem new4 (w : World) : Calls Tryd.prog 5 #[.int .i64 4, .int .i64 4] w fun e w' => ∃ b, e = .returned (.pointer (some ⟨b, 0, none⟩)) ∧ Live w (fun _ => False) b 0 0 (new 4 4) w' := by
  exact new_live 4 4 w ⟨by decide, by decide⟩ (by decide)
theorem build_first (w : World) : (Instr.build 31 #[(0, .int .i64 1)]).run Tryd.prog w = .ok (.agg #[.int .i64 1, .int .i64 0]) w := by
  have hz := (zero_of_info val_info0).1
  have h2 := fun w => sz w (show (Tryd.prog.info? 2).map (·.size) = some 1 by kernel_rfl)
  have h3 := fun w => sz w inf_int
  unfold Instr.build
  simp only [Sem.run_bind, hz, run_underlying Tryd.underlying31, Result.andThen_ok]
  simp [h2, h3, Instr.fill, Value.cells]
set_option maxHeartbeats 8000000 in
set_option maxRecDepth 100000 in
theorem graphHidden_walk (k n : Int) (x y : Nat) (w : World) (hk : St.i64p k) (hn : St.i64p n) (hx : x < 256) (hy : y < 256) (hT : TabAt w) :
    Calls Tryd.prog 3 #[.agg #[.int .i64 k, .int .i64 n], .int .u8 (x : Nat), .int .u8 (y : Nat)] w fun e w' => e = .returned (.bool true) ∧ Below w.heap.size w w' := by
  have HK := Lib.hid hk
  have HN := Lib.hid hn
  have hr1 : (x : Int).tmod 4 = ((x % 4 : Nat) : Int) := u8_rem x 4 (by decide)
  have hr2 : (y : Int).tmod 4 = ((y % 4 : Nat) : Int) := u8_rem y 4 (by decide)
  have hm1 : x % 4 < 4 := Nat.mod_lt _ (by decide)
  have hm2 : y % 4 < 4 := Nat.mod_lt _ (by decide)
  generalize x % 4 = a at *
  generalize y % 4 = b at *
  have hb0 := Tx.below_new w (.cells #[.int .i64 k, .int .i64 n] 23)
  have HB0 := Lib.hid hb0
  have HT := Lib.hid (hT.below hb0 hT.lt)
  have HX := Lib.hid (Tx.Blk.new w #[.int .i64 k, .int .i64 n] 23)
  have HXL := Lib.hid (show w.heap.size < (w.alloc (.cells #[.int .i64 k, .int .i64 n] 23)).heap.size by rw [Tx.size_new]; omega)
  clear hk hn hT hb0
  go_enter Tryd.func3, Tryd.ntmps3
  go_wp2_with fail
  generalize w.alloc (.cells #[.int .i64 k, .int .i64 n] 23) = w0 at *
  refine (alive_any w0 HT.out).mono ?_
  rintro e w1 ⟨rfl, hb1⟩
  have B1 := Lib.hid hb1
  clear hb1
  go_wp2_with fail
  refine (new4 w1).mono ?_
  rintro e w2 ⟨p, rfl, hl2⟩
  have H2 := Lib.hid (Live.since' B1.out hl2)
  clear hl2
  go_wp2_with fail
  have hia : (0 : Int) ≤ (a : Nat) ∧ ((a : Nat) : Int) < 4 := by omega
  have hib : (0 : Int) ≤ (b : Nat) ∧ ((b : Nat) : Int) < 4 := by omega
  have hpa : St.i64p ((a : Nat) : Int) := by constructor <;> omega
  have hpb : St.i64p ((b : Nat) : Int) := by constructor <;> omega
  have HPA := Lib.hid hpa
  have HPB := Lib.hid hpb
  clear hpa hpb
  by_cases hr : Tx.right k n = true
  · obtain ⟨g1, g2, g3, g4, g5, g6, g7, hh⟩ := hidden_right hia hib HK.out HN.out hr
    have HH := Lib.hid hh
    clear hh
    have hc := begin_live H2.out (by decide) (by decide) HT.out
    rw [HH.out.b1] at hc
    refine hc.mono ?_
    rintro e w3 ⟨rfl, hl, _⟩
    have H3 := Lib.hid hl
    clear hl hc
    go_wp2_with fail
    have hc := begin_live H3.out (by decide) (by decide) HT.out
    rw [HH.out.b2] at hc
    refine hc.mono ?_
    rintro e w4 ⟨rfl, hl, _⟩
    have H4 := Lib.hid hl
    have HX4 := Lib.hid (HX.out.below H4.out.bel)
    clear hl hc
    have x0 := HX4.out.cell 0
    have x1 := HX4.out.cell 1
    simp only [List.getElem?_toArray, List.getElem?_cons_zero, List.getElem?_cons_succ] at x0 x1
    go_wp2_with fail
    have hc := write_live H4.out (by decide) (id := 1) ⟨by decide, by decide⟩ HPA.out HK.out HN.out
    rw [HH.out.w3] at hc
    refine hc.mono ?_
    rintro e w5 ⟨rfl, hl, _⟩
    have H5 := Lib.hid hl
    clear hl hc x0 x1
    go_wp2_with fail
    have hc := read_live H5.out (by decide) (by decide) HT.out (id := 2) ⟨by decide, by decide⟩ HPB.out
    rw [HH.out.r4] at hc
    refine hc.mono ?_
    rintro e w6 ⟨rfl, hl, _⟩
    have H6 := Lib.hid hl
    clear hl hc
    have HV7 := Lib.hid (Tx.Blk.new w6 #[.int .i64 1, .int .i64 0] 31)
    have H7 := Lib.hid (H6.out.own (Q := fun q => q = w6.heap.size) (Tx.below_new w6 (.cells #[.int .i64 1, .int .i64 0] 31)) (fun q hq => .inr ⟨by omega, by rw [Tx.size_new]; omega⟩))
    have HX7 := Lib.hid (HX.out.below H7.out.bel)
    have x0 := HX7.out.cell 0
    have x1 := HX7.out.cell 1
    simp only [List.getElem?_toArray, List.getElem?_cons_zero, List.getElem?_cons_succ] at x0 x1
    go_wp2_with fail
    generalize w6.alloc (.cells #[.int .i64 1, .int .i64 0] 31) = w7 at *
    refine (Sx.rright_val k n true w7 hr).mono ?_
    rintro e w8 ⟨rfl, hb8⟩
    have H8 := Lib.hid (H7.out.below hb8)
    have HV8 := Lib.hid (HV7.out.below hb8)
    clear hb8 x0 x1
    go_wp2_with fail
    have hc := commit_live H8.out (by decide) (by decide) HT.out (id := 1) ⟨by decide, by decide⟩
    rw [HH.out.c5] at hc
    refine hc.mono ?_
    rintro e w9 ⟨rfl, hl, hs⟩
    have H9 := Lib.hid hl
    have HV9 := Lib.hid (show Tx.Blk w9 w6.heap.size #[.int .i64 1, .int .i64 0] 31 from (hs.block _ rfl).trans HV8.out)
    clear hl hc hs
    go_wp2_with fail
    have hc := begin_live H9.out (by decide) (by decide) HT.out
    rw [HH.out.b6] at hc
    refine hc.mono ?_
    rintro e wA ⟨rfl, hl, hs⟩
    have HA := Lib.hid hl
    have HVA := Lib.hid (show Tx.Blk wA w6.heap.size #[.int .i64 1, .int .i64 0] 31 from (hs.block _ rfl).trans HV9.out)
    clear hl hc hs
    go_wp2_with fail
    have hc := read_live HA.out (by decide) (by decide) HT.out (id := 3) ⟨by decide, by decide⟩ HPA.out
    rw [HH.out.r7] at hc
    refine hc.mono ?_
    rintro e wB ⟨rfl, hl, hs⟩
    have hbn := Tx.below_new wB (.cells #[.int .i64 k, .int .i64 n] 31)
    have HC := Lib.hid (hl.own (Q := fun q => q = w6.heap.size ∨ q = wB.heap.size) hbn (fun q hq => by
      rcases hq with hq | hq
      · exact .inl hq
      · exact .inr ⟨by omega, by rw [Tx.size_new]; omega⟩))
    have HVC := Lib.hid ((show Tx.Blk wB w6.heap.size #[.int .i64 1, .int .i64 0] 31 from (hs.block _ rfl).trans HVA.out).below hbn)
    have HUC := Lib.hid (Tx.Blk.new wB #[.int .i64 k, .int .i64 n] 31)
    clear hl hc hs hbn
    go_wp2_with fail
    generalize wB.alloc (.cells #[.int .i64 k, .int .i64 n] 31) = wC at *
    have hc := read_live HC.out (by decide) (by decide) HT.out (id := 2) ⟨by decide, by decide⟩ HPB.out
    rw [HH.out.r8] at hc
    refine hc.mono ?_
    rintro e wD ⟨rfl, hl, hs⟩
    have hbn := Tx.below_new wD (.cells #[.int .i64 1, .int .i64 0] 31)
    have HE := Lib.hid (hl.below hbn)
    have HVE := Lib.hid ((show Tx.Blk wD w6.heap.size #[.int .i64 1, .int .i64 0] 31 from (hs.block _ (.inl rfl)).trans HVC.out).below hbn)
    have HUE := Lib.hid ((show Tx.Blk wD wB.heap.size #[.int .i64 k, .int .i64 n] 31 from (hs.block _ (.inr rfl)).trans HUC.out).below hbn)
    have HWE := Lib.hid (Tx.Blk.new wD #[.int .i64 1, .int .i64 0] 31)
    have HXE := Lib.hid (HX.out.below HE.out.bel)
    clear hl hc hs hbn
    have x0 := HXE.out.cell 0
    have x1 := HXE.out.cell 1
    have v0 := HVE.out.cell 0
    have v1 := HVE.out.cell 1
    have u0 := HUE.out.cell 0
    have u1 := HUE.out.cell 1
    have y0 := HWE.out.cell 0
    have y1 := HWE.out.cell 1
    simp only [List.getElem?_toArray, List.getElem?_cons_zero, List.getElem?_cons_succ] at x0 x1 v0 v1 u0 u1 y0 y1
    have hbo := build_first
    go_wp2
    go_ret
    exact ⟨rfl, HB0.out.trans (HE.out.bel.mono HB0.out.size)⟩
  · obtain ⟨g1, g2, g4, hh⟩ := hidden_wrong hia hib hr
    have HH := Lib.hid hh
    clear hh
    have hc := begin_live H2.out (by decide) (by decide) HT.out
    rw [HH.out.b1] at hc
    refine hc.mono ?_
    rintro e w3 ⟨rfl, hl, _⟩
    have H3 := Lib.hid hl
    clear hl hc
    go_wp2_with fail
    have hc := begin_live H3.out (by decide) (by decide) HT.out
    rw [HH.out.b2] at hc
    refine hc.mono ?_
    rintro e w4 ⟨rfl, hl, _⟩
    have H4 := Lib.hid hl
    have HX4 := Lib.hid (HX.out.below H4.out.bel)
    clear hl hc
    have x0 := HX4.out.cell 0
    have x1 := HX4.out.cell 1
    simp only [List.getElem?_toArray, List.getElem?_cons_zero, List.getElem?_cons_succ] at x0 x1
    go_wp2_with fail
    have hc := write_live H4.out (by decide) (id := 1) ⟨by decide, by decide⟩ HPA.out HK.out HN.out
    rw [HH.out.w3] at hc
    refine hc.mono ?_
    rintro e w5 ⟨rfl, hl, _⟩
    have H5 := Lib.hid hl
    clear hl hc x0 x1
    go_wp2_with fail
    have hc := read_live H5.out (by decide) (by decide) HT.out (id := 2) ⟨by decide, by decide⟩ HPB.out
    rw [HH.out.r4] at hc
    refine hc.mono ?_
    rintro e w6 ⟨rfl, hl, _⟩
    have H6 := Lib.hid hl
    clear hl hc
    have H7 := Lib.hid (H6.out.below (Tx.below_new w6 (.cells #[.int .i64 1, .int .i64 0] 31)))
    have HX7 := Lib.hid (HX.out.below H7.out.bel)
    have x0 := HX7.out.cell 0
    have x1 := HX7.out.cell 1
    simp only [List.getElem?_toArray, List.getElem?_cons_zero, List.getElem?_cons_succ] at x0 x1
    have hr0 : Tx.right k n = false := by simpa using hr
    go_wp2_with fail
    generalize w6.alloc (.cells #[.int .i64 1, .int .i64 0] 31) = w7 at *
    refine (Sx.rright_val k n false w7 hr0).mono ?_
    rintro e w8 ⟨rfl, hb8⟩
    have H8 := Lib.hid (H7.out.below hb8)
    clear hb8 x0 x1
    go_wp2
    go_ret
    exact ⟨rfl, HB0.out.trans (H8.out.bel.mono HB0.out.size)⟩
end Go.Proofs.YtkghpecimjmjfaaDoor.En
