/-
  The contract of the statements' own first look: the answers that the document fixes are given; nothing that was there is changed.
-/
import Derived.Test.YtgelfjoacppkcaaDoorTopoIns2
namespace Go.Proofs.YtgelfjoacppkcaaDoor
open Go.RowKit
attribute [local go_sem ↓] Go.wp_at_zero Go.wp_at_succ
theorem zero_row : matA zeroM = #[Value.int IntKind.u64 0, Value.int IntKind.u64 0, Value.int IntKind.u64 0, Value.int IntKind.u64 0, Value.int IntKind.u64 0, Value.int IntKind.u64 0, Value.int IntKind.u64 0, Value.int IntKind.u64 0, Value.int IntKind.u64 0, Value.int IntKind.u64 0, Value.int IntKind.u64 0, Value.int IntKind.u64 0, Value.int IntKind.u64 0, Value.int IntKind.u64 0, Value.int IntKind.u64 0, Value.int IntKind.u64 0, Value.int IntKind.u64 0, Value.int IntKind.u64 0, Value.int IntKind.u64 0, Value.int IntKind.u64 0, Value.int IntKind.u64 0, Value.int IntKind.u64 0, Value.int IntKind.u64 0, Value.int IntKind.u64 0, Value.int IntKind.u64 0, Value.int IntKind.u64 0, Value.int IntKind.u64 0, Value.int IntKind.u64 0, Value.int IntKind.u64 0, Value.int IntKind.u64 0, Value.int IntKind.u64 0, Value.int IntKind.u64 0] := (show matA zeroM = Array.replicate 32 (Value.int .u64 0) from matA_zero).trans rfl
theorem zeroO_row : ordA zeroO = #[Value.int IntKind.i64 0, Value.int IntKind.i64 0, Value.int IntKind.i64 0, Value.int IntKind.i64 0, Value.int IntKind.i64 0, Value.int IntKind.i64 0, Value.int IntKind.i64 0, Value.int IntKind.i64 0, Value.int IntKind.i64 0, Value.int IntKind.i64 0, Value.int IntKind.i64 0, Value.int IntKind.i64 0, Value.int IntKind.i64 0, Value.int IntKind.i64 0, Value.int IntKind.i64 0, Value.int IntKind.i64 0, Value.int IntKind.i64 0, Value.int IntKind.i64 0, Value.int IntKind.i64 0, Value.int IntKind.i64 0, Value.int IntKind.i64 0, Value.int IntKind.i64 0, Value.int IntKind.i64 0, Value.int IntKind.i64 0, Value.int IntKind.i64 0, Value.int IntKind.i64 0, Value.int IntKind.i64 0, Value.int IntKind.i64 0, Value.int IntKind.i64 0, Value.int IntKind.i64 0, Value.int IntKind.i64 0, Value.int IntKind.i64 0] := ordA_zero.trans rfl
theorem new_at {p : Nat} (hp : p < 32) : Od.at_ Od.newO p = p := (Od.new_right.at_eq hp rfl).2
theorem fore_none (j : Nat) : (Od.fore zeroM Od.newO 5 2).testBit j = true ↔ j = 2 := by
  rw [Od.fore_test (by decide)]
  constructor
  · rintro (h | ⟨_, h⟩)
    · exact h
    · rcases h.cases_head with h1 | ⟨_, h1, _⟩
      · exact absurd h1.1 (zero_E _ _)
      · exact absurd h1.1 (zero_E _ _)
  · intro h; exact .inl h
theorem hind_none (j : Nat) : (Od.hind zeroM Od.newO 5 2).testBit j = true ↔ j = 5 := by
  rw [Od.hind_test (by decide)]
  constructor
  · rintro (h | ⟨_, h⟩)
    · exact h
    · rcases h.cases_head with h1 | ⟨_, h1, _⟩
      · exact absurd h1.1 (zero_E _ _)
      · exact absurd h1.1 (zero_E _ _)
  · intro h; exact .inl h
theorem fore_5 : (Od.fore zeroM Od.newO 5 2).testBit 5 = false := by
  cases h : (Od.fore zeroM Od.newO 5 2).testBit 5
  · rfl
  · exact absurd ((fore_none 5).1 h) (by decide)
def m1 : Mm.Gr := Mm.put zeroM 5 2
noncomputable def o1 : Od.O := Od.moved zeroM Od.newO 5 2
theorem zero_sorted : Od.Sorted zeroM Od.newO := Od.new_sorted zero_E
theorem insert1 : Od.insert zeroM Od.newO ((5 : Nat) : Int) ((2 : Nat) : Int) = (m1, o1, true) := Od.insert_down (by decide) (by decide) (by decide) zero_sorted (by decide) fore_5
theorem m1_ok : Mm.Ok m1 := Mm.put_ok _ _ zero_ok
theorem m1_edge : Mm.E m1 5 2 := (Mm.put_E (by decide) (by decide) 5 2).2 (.inr ⟨rfl, rfl⟩)
theorem o1_sorted : Od.Sorted m1 o1 := Od.moved_sorted zero_sorted (by decide) (by decide) (by decide) fore_5
theorem new_places {p : Nat} (h : p ∈ Od.placesOf Od.newO (Od.hind zeroM Od.newO 5 2 ||| Od.fore zeroM Od.newO 5 2)) : p = 2 ∨ p = 5 := by
  have h := Od.places_mem.1 h
  rw [new_at h.1, Nat.testBit_or, Bool.or_eq_true] at h
  rcases h.2 with h | h
  · exact .inr ((hind_none p).1 h)
  · exact .inl ((fore_none p).1 h)
theorem o1_vals : o1 5 = 2 ∧ o1 2 = 5 := by
  have hap := Od.both_apart (m := zeroM) (o := Od.newO) (a := 5) (b := 2) (by decide) (by decide) fore_5
  obtain ⟨p, hp, ep⟩ := Od.relay_mem Od.new_right hap (x := 5) (by decide) (.inl ((hind_none 5).2 rfl))
  obtain ⟨q, hq, eq⟩ := Od.relay_mem Od.new_right hap (x := 2) (by decide) (.inr ((fore_none 2).2 rfl))
  have hlt := Od.moved_new (m := zeroM) (o := Od.newO) (a := 5) (b := 2) Od.new_right (by decide) (by decide) fore_5
  have e1 : o1 5 = (p : Int) := ep
  have e2 : o1 2 = (q : Int) := eq
  have hlt : o1 5 < o1 2 := hlt
  have hp := new_places hp
  have hq := new_places hq
  omega
theorem insert2 : (Od.insert m1 o1 ((2 : Nat) : Int) ((5 : Nat) : Int)).2.2 = false := by
  have hno : ∀ q : Od.O, ¬ Od.Sorted (Mm.put m1 2 5) q := fun q h => by
    have h1 := h.2 2 5 ((Mm.put_E (by decide) (by decide) 2 5).2 (.inr ⟨rfl, rfl⟩))
    have h2 := h.2 5 2 ((Mm.put_E (by decide) (by decide) 5 2).2 (.inl m1_edge))
    omega
  refine Od.insert_cases m1 o1 _ _ (fun r => r.2.2 = false) (fun _ => rfl) ?_ (fun _ _ _ _ _ _ _ _ _ _ => rfl) ?_
  · intro x y hx hy hx32 hy32 _ hs hlt
    have ex : x = 2 := by omega
    have ey : y = 5 := by omega
    subst ex; subst ey
    exact absurd (Od.put_sorted hs hx32 hy32 hlt) (hno _)
  · intro x y hx hy hx32 hy32 _ hs hle hf
    have ex : x = 2 := by omega
    have ey : y = 5 := by omega
    subst ex; subst ey
    exact absurd (Od.moved_sorted hs hx32 hy32 hle hf) (hno _)
theorem new_unsorted : Od.sortedB m1 Od.newO = false := Od.sortedB_no fun h => by
  have := h.2 5 2 m1_edge
  revert this; decide
theorem zeroO_not : Od.rightB zeroO = false := Od.rightB_no fun h => by
  obtain ⟨i, _, e⟩ := h 1 (by decide)
  revert e; simp [zeroO]
theorem insert52 (w : World) (hT : TabAt w) : Calls Tryd.prog 12 #[.agg #[Value.int IntKind.u64 0, Value.int IntKind.u64 0, Value.int IntKind.u64 0, Value.int IntKind.u64 0, Value.int IntKind.u64 0, Value.int IntKind.u64 0, Value.int IntKind.u64 0, Value.int IntKind.u64 0, Value.int IntKind.u64 0, Value.int IntKind.u64 0, Value.int IntKind.u64 0, Value.int IntKind.u64 0, Value.int IntKind.u64 0, Value.int IntKind.u64 0, Value.int IntKind.u64 0, Value.int IntKind.u64 0, Value.int IntKind.u64 0, Value.int IntKind.u64 0, Value.int IntKind.u64 0, Value.int IntKind.u64 0, Value.int IntKind.u64 0, Value.int IntKind.u64 0, Value.int IntKind.u64 0, Value.int IntKind.u64 0, Value.int IntKind.u64 0, Value.int IntKind.u64 0, Value.int IntKind.u64 0, Value.int IntKind.u64 0, Value.int IntKind.u64 0, Value.int IntKind.u64 0, Value.int IntKind.u64 0, Value.int IntKind.u64 0], .agg (ordA Od.newO), .int .i64 5, .int .i64 2] w fun e w' => e = .returned (.tuple #[.agg (matA m1), .agg (ordA o1), .bool true]) ∧ Below w.heap.size w w' := by
  have := insert_any zeroM Od.newO ((5 : Nat) : Int) ((2 : Nat) : Int) w zero_ok Od.new_right.ok (by omega) (by omega) hT
  rw [insert1, zero_row] at this
  exact this
theorem insert25 (w : World) (hT : TabAt w) : Calls Tryd.prog 12 #[.agg (matA m1), .agg (ordA o1), .int .i64 2, .int .i64 5] w fun e w' => (∃ m2 o2, e = .returned (.tuple #[.agg (matA m2), .agg (ordA o2), .bool false])) ∧ Below w.heap.size w w' := by
  have := insert_any m1 o1 ((2 : Nat) : Int) ((5 : Nat) : Int) w m1_ok o1_sorted.1.ok (by omega) (by omega) hT
  rw [insert2] at this
  exact this.mono fun e w' h => ⟨⟨_, _, h.1⟩, h.2⟩
theorem rightZ (w : World) : Calls Tryd.prog 15 #[.agg #[Value.int IntKind.i64 0, Value.int IntKind.i64 0, Value.int IntKind.i64 0, Value.int IntKind.i64 0, Value.int IntKind.i64 0, Value.int IntKind.i64 0, Value.int IntKind.i64 0, Value.int IntKind.i64 0, Value.int IntKind.i64 0, Value.int IntKind.i64 0, Value.int IntKind.i64 0, Value.int IntKind.i64 0, Value.int IntKind.i64 0, Value.int IntKind.i64 0, Value.int IntKind.i64 0, Value.int IntKind.i64 0, Value.int IntKind.i64 0, Value.int IntKind.i64 0, Value.int IntKind.i64 0, Value.int IntKind.i64 0, Value.int IntKind.i64 0, Value.int IntKind.i64 0, Value.int IntKind.i64 0, Value.int IntKind.i64 0, Value.int IntKind.i64 0, Value.int IntKind.i64 0, Value.int IntKind.i64 0, Value.int IntKind.i64 0, Value.int IntKind.i64 0, Value.int IntKind.i64 0, Value.int IntKind.i64 0, Value.int IntKind.i64 0]] w fun e w' => e = .returned (.bool false) ∧ Below w.heap.size w w' := by
  rw [← zeroO_row]; exact right_val zeroO false w (fun _ _ => by simp [zeroO]) zeroO_not
/-- two variables that were made, and given their values. -/
theorem two_new {t u : Nat} {W : World} (Z1 Z2 : Array Value) (m : Mm.Gr) (o : Od.O) :
    MatAt ((((W.alloc (.cells Z1 t)).alloc (.cells Z2 u)).setRow W.heap.size (matA m)).setRow (W.heap.size + 1) (ordA o)) W.heap.size m t ∧
    OrdAt ((((W.alloc (.cells Z1 t)).alloc (.cells Z2 u)).setRow W.heap.size (matA m)).setRow (W.heap.size + 1) (ordA o)) (W.heap.size + 1) o u ∧
    Below W.heap.size W ((((W.alloc (.cells Z1 t)).alloc (.cells Z2 u)).setRow W.heap.size (matA m)).setRow (W.heap.size + 1) (ordA o)) := by
  have h1 : MatAt (((W.alloc (.cells Z1 t)).alloc (.cells Z2 u)).setRow W.heap.size (matA m)) W.heap.size m t := setRow_heap _ _ _ _ _ _ (heap_alloc2_old _ _ _)
  have h2 : (((W.alloc (.cells Z1 t)).alloc (.cells Z2 u)).setRow W.heap.size (matA m)).heap[W.heap.size + 1]? = some (.cells Z2 u (0, 0)) := (setRow_other _ _ _ _ (by omega)).trans (heap_alloc2_new _ _ _)
  exact ⟨h1.setRow _ (by omega), setRow_heap _ _ _ _ _ _ h2, setRow_below (setRow_below (((Below.refl _ _).alloc (Nat.le_refl _) _).alloc (by simp) _) (Nat.le_refl _)) (by omega)⟩
theorem wpList_let2 {ops : Array Oper} {rest : List Oper} {o1 o2 : Oper} {a : Act} {V : World} {Q : Exit → Act → World → Prop} {Z1 Z2 : Array Value} (hg1 : o1.guard = none) (hg2 : o2.guard = none) (t u : Nat) (x1 y1 x2 y2 : Operand)
    (ho1 : o1.op = .store t x1 y1) (ho2 : o2.op = .store u x2 y2) (hd1 : o1.dst = none) (hd2 : o2.dst = none) (W : World) (m : Mm.Gr) (o : Od.O) (hV : V = (W.alloc (.cells Z1 t)).alloc (.cells Z2 u)) (hx1 : a.eval x1 = .pointer (some ⟨W.heap.size, 0, none⟩)) (hy1 : a.eval y1 = .agg (matA m)) (hx2 : a.eval x2 = .pointer (some ⟨W.heap.size + 1, 0, none⟩)) (hy2 : a.eval y2 = .agg (ordA o))
    (hz1 : Z1.size = 32) (hz2 : Z2.size = 32) (hi1 : (Tryd.prog.info? t).map (·.size) = some 32) (hi2 : (Tryd.prog.info? u).map (·.size) = some 32)
    (h : ∀ W', MatAt W' W.heap.size m t → OrdAt W' (W.heap.size + 1) o u → Below W.heap.size W W' → wpList Tryd.prog ops Q rest a W') : wpList Tryd.prog ops Q (o1 :: o2 :: rest) a V := by
  subst hV
  have h0 := two_new (t := t) (u := u) (W := W) Z1 Z2 m o
  refine wpList_store_row hg1 t x1 y1 ho1 W.heap.size (matA m) hx1 hy1 t Z1 (heap_alloc2_old _ _ _) (by rw [matA_size]; exact hi1) (by rw [hz1, matA_size]) (matA_one _) ?_
  rw [hd1]
  refine wpList_store_row hg2 u x2 y2 ho2 (W.heap.size + 1) (ordA o) hx2 hy2 u Z2 ((setRow_other _ _ _ _ (by omega)).trans (heap_alloc2_new _ _ _)) (by rw [ordA_size]; exact hi2) (by rw [hz2, ordA_size]) (ordA_one _) ?_
  rw [hd2]
  exact h _ h0.1 h0.2.1 h0.2.2
structure ASt (w : World) (g h : Nat) (m : Mm.Gr) (o : Od.O) (W : World) : Prop where
  gr : MatAt W g m 32
  od : OrdAt W h o 34
  tab : TabAt W
  bel : Below w.heap.size w W
theorem ASt.below {w W W' : World} {g h : Nat} {m : Mm.Gr} {o : Od.O} (s : ASt w g h m o W) (hb : Below W.heap.size W W') : ASt w g h m o W' := ⟨s.gr.below hb, s.od.below hb, tab_below s.tab hb, s.bel.trans (hb.mono s.bel.size)⟩
structure AR (w : World) (g h : Nat) (m : Mm.Gr) (o : Od.O) (base : Nat) (v : Value) (l : List Nat) (W : World) : Prop where
  st : ASt w g h m o W
  row : Own W base v l
theorem AR.below {w W W' : World} {g h base : Nat} {m : Mm.Gr} {o : Od.O} {v : Value} {l : List Nat} (s : AR w g h m o base v l W) (hb : Below W.heap.size W W') : AR w g h m o base v l W' := ⟨s.st.below hb, s.row.below hb (Nat.le_refl _)⟩
theorem own_cell {W : World} {base g n c : Nat} {l : List Nat} (h : Own W base (.slice (some ⟨g, 0, none⟩) n c) l) {k : Nat} (hk : k < l.length) : W.cell? ⟨g, k, none⟩ = some (.int .i64 (l[k] : Nat)) := by
  obtain ⟨g', hA, hc⟩ := h.at_ hk
  injection hA with hA
  injection hA with hA
  subst hA
  exact hc
theorem new_cell7 {W : World} {base g c : Nat} (h : Own W base (.slice (some ⟨g, 0, none⟩) 32 c) (Od.row Od.newO)) : W.cell? ⟨g, 7, none⟩ = some (.int .i64 7) := by
  have := own_cell h (k := 7) (by rw [Od.row_len]; decide)
  rw [row_at, new_at (by decide)] at this
  exact this
set_option maxHeartbeats 4000000 in
set_option maxRecDepth 100000 in
theorem alive_any (w : World) (hT : TabAt w) : Calls Tryd.prog 10 #[] w fun e w' => e = .returned (.bool true) ∧ Below w.heap.size w w' := by
  have HT := Lib.hid hT
  clear hT
  go_enter Tryd.func10, Tryd.ntmps10
  go_wp2_with fail
  refine (new_any _).mono ?_
  rintro e w1 ⟨rfl, hb1⟩
  have HT1 := Lib.hid (tab_below HT.out hb1)
  go_wp2_with fail
  refine (insert52 _ HT1.out).mono ?_
  rintro e w2 ⟨rfl, hb2⟩
  have HB2 := Lib.hid (hb1.trans (hb2.mono hb1.size))
  have HT2 := Lib.hid (tab_below HT1.out hb2)
  clear hb1 hb2 HT1
  go_wp2_with (first
    | (refine wpList_let2 rfl rfl 32 34 (.tmp 1) (.tmp 12) (.tmp 2) (.tmp 13) rfl rfl rfl rfl w2 m1 o1 rfl rfl rfl rfl rfl rfl rfl mat_info ord_info ?_; intro wx hM hO hB; have HZ2 := Lib.hid (show ASt w w2.heap.size (w2.heap.size + 1) m1 o1 wx from ⟨hM, hO, tab_below HT2.out hB, HB2.out.trans (hB.mono HB2.out.size)⟩); clear hM hO hB)
    | (refine wpList_load_row rfl 32 (.tmp 1) rfl w2.heap.size rfl 32 (matA m1) (0, 0) _ HZ2.out.gr Tryd.underlying32 rfl (matInfo _) ?_)
    | (refine wpList_load_row rfl 34 (.tmp 2) rfl (w2.heap.size + 1) rfl 34 (ordA o1) (0, 0) _ HZ2.out.od Tryd.underlying34 rfl (ordInfo _) ?_))
  refine (insert25 _ HZ2.out.tab).mono ?_
  rintro e w3 ⟨⟨m2, o2, rfl⟩, hb3⟩
  have HZ3 := Lib.hid (HZ2.out.below hb3)
  clear hb3 HZ2
  go_wp2_with (refine wpList_let2 rfl rfl 32 34 (.tmp 4) (.tmp 19) (.tmp 5) (.tmp 20) rfl rfl rfl rfl w3 m2 o2 rfl rfl rfl rfl rfl rfl rfl mat_info ord_info ?_; intro wy hM hO hB; have HZ3y := Lib.hid (HZ3.out.below hB); clear hM hO hB)
  refine (new_any _).mono ?_
  rintro e w4 ⟨rfl, hb4⟩
  have HZ4 := Lib.hid ((HZ3y.out).below hb4)
  clear hb4 HZ3 HZ3y
  go_wp2_with fail
  refine (row_yes Od.newO _ Od.new_right).mono ?_
  rintro e w5 ⟨v, rfl, hown, hb5⟩
  have HR5 := Lib.hid hown
  obtain ⟨gr, cr, hv, _, _⟩ := World.ownsRow.form hown (by rw [Od.row_len]; decide)
  rw [Od.row_len] at hv
  subst hv
  have HZ := Lib.hid (show AR w w2.heap.size (w2.heap.size + 1) m1 o1 w4.heap.size (.slice (some ⟨gr, 0, none⟩) 32 cr) (Od.row Od.newO) w5 from ⟨HZ4.out.below hb5, HR5.out⟩)
  clear hown hb5 HZ4 HR5
  go_wp2_with fail
  refine wp_region_noPanic ?_
  refine region_start (S := AR w w2.heap.size (w2.heap.size + 1) m1 o1 w4.heap.size (.slice (some ⟨gr, 0, none⟩) 32 cr) (Od.row Od.newO)) 47 rfl (by kernel_rfl) (HZ.out.below (below_drew _)) (fun hHeld => ?_)
  refine take_at 0 24 (.bool true) rfl rfl (by kernel_rfl) (by kernel_rfl) (by kernel_rfl) (fun _ _ _ h => h) (Or.inl ⟨by rfl, by intro W hW; clear hW; go_simp⟩) hHeld ?_
  simp only [put_laws]
  refine take_at 1 25 (.bool true) rfl rfl (by kernel_rfl) (by kernel_rfl) (by kernel_rfl) (fun _ _ _ h => h) (Or.inl ⟨by rfl, by intro W hW; clear hW; go_simp⟩) hHeld ?_
  simp only [put_laws]
  refine take_at 2 26 (.pointer (some ⟨w2.heap.size + 1, 5, none⟩)) rfl rfl (by kernel_rfl) (by kernel_rfl) (by kernel_rfl) (fun _ _ _ h => h) (Or.inl ⟨by rfl, by intro W hW; clear hW; go_simp; try (intro h; omega)⟩) hHeld ?_
  simp only [put_laws]
  refine take_at 3 27 (.int .i64 2) rfl rfl (by kernel_rfl) (by kernel_rfl) (by kernel_rfl) (fun _ _ _ h => h) (Or.inl ⟨by rfl, by intro W hW; have hc := hW.st.od.cell 5 (by decide); rw [o1_vals.1] at hc; clear hW; go_simp⟩) hHeld ?_
  simp only [put_laws]
  refine take_at 4 28 (.bool true) rfl rfl (by kernel_rfl) (by kernel_rfl) (by kernel_rfl) (fun _ _ _ h => h) (Or.inl ⟨by rfl, by intro W hW; clear hW; go_simp⟩) hHeld ?_
  simp only [put_laws]
  refine take_at 5 29 (.bool true) rfl rfl (by kernel_rfl) (by kernel_rfl) (by kernel_rfl) (fun _ _ _ h => h) (Or.inl ⟨by rfl, by intro W hW; clear hW; go_simp⟩) hHeld ?_
  simp only [put_laws]
  refine take_at 6 30 (.bool true) rfl rfl (by kernel_rfl) (by kernel_rfl) (by kernel_rfl) (fun _ _ _ h => h) (Or.inl ⟨by rfl, by intro W hW; clear hW; go_simp⟩) hHeld ?_
  simp only [put_laws]
  refine take_at 7 31 (.pointer (some ⟨w2.heap.size + 1, 2, none⟩)) rfl rfl (by kernel_rfl) (by kernel_rfl) (by kernel_rfl) (fun _ _ _ h => h) (Or.inl ⟨by rfl, by intro W hW; clear hW; go_simp; try (intro h; omega)⟩) hHeld ?_
  simp only [put_laws]
  refine take_at 8 32 (.int .i64 5) rfl rfl (by kernel_rfl) (by kernel_rfl) (by kernel_rfl) (fun _ _ _ h => h) (Or.inl ⟨by rfl, by intro W hW; have hc := hW.st.od.cell 2 (by decide); rw [o1_vals.2] at hc; clear hW; go_simp⟩) hHeld ?_
  simp only [put_laws]
  refine take_at 9 33 (.bool true) rfl rfl (by kernel_rfl) (by kernel_rfl) (by kernel_rfl) (fun _ _ _ h => h) (Or.inl ⟨by rfl, by intro W hW; clear hW; go_simp⟩) hHeld ?_
  simp only [put_laws]
  refine take_at 10 34 (.bool true) rfl rfl (by kernel_rfl) (by kernel_rfl) (by kernel_rfl) (fun _ _ _ h => h) (Or.inl ⟨by rfl, by intro W hW; clear hW; go_simp⟩) hHeld ?_
  simp only [put_laws]
  refine take_at 11 35 (.bool true) rfl rfl (by kernel_rfl) (by kernel_rfl) (by kernel_rfl) (fun _ _ _ h => h) (Or.inl ⟨by rfl, by intro W hW; clear hW; go_simp⟩) hHeld ?_
  simp only [put_laws]
  refine take_at 12 36 (.bool false) rfl rfl (by kernel_rfl) (by kernel_rfl) (by kernel_rfl) (fun _ _ _ h => h) (Or.inl ⟨by rfl, by intro W hW; clear hW; go_simp⟩) hHeld ?_
  simp only [put_laws]
  refine take_at 13 37 (.bool true) rfl rfl (by kernel_rfl) (by kernel_rfl) (by kernel_rfl) (fun _ _ _ h => h) (Or.inl ⟨by rfl, by intro W hW; clear hW; go_simp⟩) hHeld ?_
  simp only [put_laws]
  refine take_at 14 38 (.bool true) rfl rfl (by kernel_rfl) (by kernel_rfl) (by kernel_rfl) (fun _ _ _ h => h) (Or.inl ⟨by rfl, by intro W hW; clear hW; go_simp⟩) hHeld ?_
  simp only [put_laws]
  refine take_at 15 39 (.bool true) rfl rfl (by kernel_rfl) (by kernel_rfl) (by kernel_rfl) (fun _ _ _ h => h) (Or.inl ⟨by rfl, by intro W hW; clear hW; go_simp⟩) hHeld ?_
  simp only [put_laws]
  refine take_at 16 40 (.slice (some ⟨gr, 0, none⟩) 32 cr) rfl rfl (by kernel_rfl) (by kernel_rfl) (by kernel_rfl) (fun _ _ _ h => h) (Or.inl ⟨by rfl, by intro W hW; clear hW; go_simp⟩) hHeld ?_
  simp only [put_laws]
  refine take_at 17 41 (.int .i64 32) rfl rfl (by kernel_rfl) (by kernel_rfl) (by kernel_rfl) (fun _ _ _ h => h) (Or.inl ⟨by rfl, by intro W hW; clear hW; go_simp⟩) hHeld ?_
  simp only [put_laws]
  refine take_at 18 42 (.bool true) rfl rfl (by kernel_rfl) (by kernel_rfl) (by kernel_rfl) (fun _ _ _ h => h) (Or.inl ⟨by rfl, by intro W hW; clear hW; go_simp⟩) hHeld ?_
  simp only [put_laws]
  refine take_at 19 43 (.bool true) rfl rfl (by kernel_rfl) (by kernel_rfl) (by kernel_rfl) (fun _ _ _ h => h) (Or.inl ⟨by rfl, by intro W hW; clear hW; go_simp⟩) hHeld ?_
  simp only [put_laws]
  refine take_at 20 44 (.bool true) rfl rfl (by kernel_rfl) (by kernel_rfl) (by kernel_rfl) (fun _ _ _ h => h) (Or.inl ⟨by rfl, by intro W hW; clear hW; go_simp⟩) hHeld ?_
  simp only [put_laws]
  refine take_at 21 45 (.slice (some ⟨gr, 0, none⟩) 32 cr) rfl rfl (by kernel_rfl) (by kernel_rfl) (by kernel_rfl) (fun _ _ _ h => h) (Or.inl ⟨by rfl, by intro W hW; clear hW; go_simp⟩) hHeld ?_
  simp only [put_laws]
  refine take_at 22 46 (.pointer (some ⟨gr, 7, none⟩)) rfl rfl (by kernel_rfl) (by kernel_rfl) (by kernel_rfl) (fun _ _ _ h => h) (Or.inl ⟨by rfl, by intro W hW; clear hW; go_simp; try (intro h; omega)⟩) hHeld ?_
  simp only [put_laws]
  refine take_at 23 47 (.int .i64 7) rfl rfl (by kernel_rfl) (by kernel_rfl) (by kernel_rfl) (fun _ _ _ h => h) (Or.inl ⟨by rfl, by intro W hW; have hc := new_cell7 hW.row; clear hW; go_simp⟩) hHeld ?_
  simp only [put_laws]
  refine take_at 24 48 (.bool true) rfl rfl (by kernel_rfl) (by kernel_rfl) (by kernel_rfl) (fun _ _ _ h => h) (Or.inl ⟨by rfl, by intro W hW; clear hW; go_simp⟩) hHeld ?_
  simp only [put_laws]
  refine take_at 25 49 (.bool true) rfl rfl (by kernel_rfl) (by kernel_rfl) (by kernel_rfl) (fun _ _ _ h => h) (Or.inl ⟨by rfl, by intro W hW; clear hW; go_simp⟩) hHeld ?_
  simp only [put_laws]
  refine take_at 26 50 (.bool true) rfl rfl (by kernel_rfl) (by kernel_rfl) (by kernel_rfl) (fun _ _ _ h => h) (Or.inl ⟨by rfl, by intro W hW; clear hW; go_simp⟩) hHeld ?_
  simp only [put_laws]
  refine take_at 27 51 (.agg (ordA o1)) rfl rfl (by kernel_rfl) (by kernel_rfl) (by kernel_rfl) (fun _ _ _ h => h) (yields_row (by rfl) 34 (.tmp 2) rfl (w2.heap.size + 1) rfl 34 (ordA o1) (fun W h => h.st.od) Tryd.underlying34 (ordInfo _)) hHeld ?_
  simp only [put_laws]
  refine wpAnyH_ready (rs := [28]) (by kernel_rfl) (by simp) ?_
  refine AllReadyH.cons rfl (fun K hK => ?_) AllReadyH.nil
  go_simp
  refine (right_val o1 true _ o1_sorted.1.ok (Od.rightB_yes o1_sorted.1)).mono ?_
  rintro e wa ⟨rfl, hb⟩
  try go_simp
  have hHeld := hHeld.below hb
  refine hK.out _ _ hHeld (fun hHeld => ?_)
  clear hK K
  refine take_at 29 53 (.bool true) rfl rfl (by kernel_rfl) (by kernel_rfl) (by kernel_rfl) (fun _ _ _ h => h) (Or.inl ⟨by rfl, by intro W hW; clear hW; go_simp⟩) hHeld ?_
  simp only [put_laws]
  refine take_at 30 54 (.bool true) rfl rfl (by kernel_rfl) (by kernel_rfl) (by kernel_rfl) (fun _ _ _ h => h) (Or.inl ⟨by rfl, by intro W hW; clear hW; go_simp⟩) hHeld ?_
  simp only [put_laws]
  refine take_at 31 55 (.agg (matA m1)) rfl rfl (by kernel_rfl) (by kernel_rfl) (by kernel_rfl) (fun _ _ _ h => h) (yields_row (by rfl) 32 (.tmp 1) rfl (w2.heap.size) rfl 32 (matA m1) (fun W h => h.st.gr) Tryd.underlying32 (matInfo _)) hHeld ?_
  simp only [put_laws]
  refine take_at 32 56 (.agg (ordA o1)) rfl rfl (by kernel_rfl) (by kernel_rfl) (by kernel_rfl) (fun _ _ _ h => h) (yields_row (by rfl) 34 (.tmp 2) rfl (w2.heap.size + 1) rfl 34 (ordA o1) (fun W h => h.st.od) Tryd.underlying34 (ordInfo _)) hHeld ?_
  simp only [put_laws]
  refine wpAnyH_ready (rs := [33]) (by kernel_rfl) (by simp) ?_
  refine AllReadyH.cons rfl (fun K hK => ?_) AllReadyH.nil
  go_simp
  refine (sorted_val m1 o1 true _ m1_ok o1_sorted.1.ok hHeld.st.tab (Od.sortedB_yes o1_sorted)).mono ?_
  rintro e wb ⟨rfl, hb⟩
  try go_simp
  have hHeld := hHeld.below hb
  refine hK.out _ _ hHeld (fun hHeld => ?_)
  clear hK K
  refine take_at 34 58 (.bool true) rfl rfl (by kernel_rfl) (by kernel_rfl) (by kernel_rfl) (fun _ _ _ h => h) (Or.inl ⟨by rfl, by intro W hW; clear hW; go_simp⟩) hHeld ?_
  simp only [put_laws]
  refine take_at 35 59 (.bool true) rfl rfl (by kernel_rfl) (by kernel_rfl) (by kernel_rfl) (fun _ _ _ h => h) (Or.inl ⟨by rfl, by intro W hW; clear hW; go_simp⟩) hHeld ?_
  simp only [put_laws]
  refine take_at 36 60 (.agg (matA m1)) rfl rfl (by kernel_rfl) (by kernel_rfl) (by kernel_rfl) (fun _ _ _ h => h) (yields_row (by rfl) 32 (.tmp 1) rfl (w2.heap.size) rfl 32 (matA m1) (fun W h => h.st.gr) Tryd.underlying32 (matInfo _)) hHeld ?_
  simp only [put_laws]
  refine wpAnyH_ready (rs := [37]) (by kernel_rfl) (by simp) ?_
  refine AllReadyH.cons rfl (fun K hK => ?_) AllReadyH.nil
  go_simp
  refine (new_any _).mono ?_
  rintro e wc ⟨rfl, hb⟩
  try go_simp
  have hHeld := hHeld.below hb
  refine hK.out _ _ hHeld (fun hHeld => ?_)
  clear hK K
  refine wpAnyH_ready (rs := [38]) (by kernel_rfl) (by simp) ?_
  refine AllReadyH.cons rfl (fun K hK => ?_) AllReadyH.nil
  go_simp
  refine (sorted_val m1 Od.newO false _ m1_ok Od.new_right.ok hHeld.st.tab new_unsorted).mono ?_
  rintro e wd ⟨rfl, hb⟩
  try go_simp
  have hHeld := hHeld.below hb
  refine hK.out _ _ hHeld (fun hHeld => ?_)
  clear hK K
  refine take_at 39 63 (.bool true) rfl rfl (by kernel_rfl) (by kernel_rfl) (by kernel_rfl) (fun _ _ _ h => h) (Or.inl ⟨by rfl, by intro W hW; clear hW; go_simp⟩) hHeld ?_
  simp only [put_laws]
  refine take_at 40 64 (.bool true) rfl rfl (by kernel_rfl) (by kernel_rfl) (by kernel_rfl) (fun _ _ _ h => h) (Or.inl ⟨by rfl, by intro W hW; clear hW; go_simp⟩) hHeld ?_
  simp only [put_laws]
  refine take_at 41 65 (.bool true) rfl rfl (by kernel_rfl) (by kernel_rfl) (by kernel_rfl) (fun _ _ _ h => h) (Or.inl ⟨by rfl, by intro W hW; clear hW; go_simp⟩) hHeld ?_
  simp only [put_laws]
  refine take_at 42 66 (.agg #[Value.int IntKind.i64 0, Value.int IntKind.i64 0, Value.int IntKind.i64 0, Value.int IntKind.i64 0, Value.int IntKind.i64 0, Value.int IntKind.i64 0, Value.int IntKind.i64 0, Value.int IntKind.i64 0, Value.int IntKind.i64 0, Value.int IntKind.i64 0, Value.int IntKind.i64 0, Value.int IntKind.i64 0, Value.int IntKind.i64 0, Value.int IntKind.i64 0, Value.int IntKind.i64 0, Value.int IntKind.i64 0, Value.int IntKind.i64 0, Value.int IntKind.i64 0, Value.int IntKind.i64 0, Value.int IntKind.i64 0, Value.int IntKind.i64 0, Value.int IntKind.i64 0, Value.int IntKind.i64 0, Value.int IntKind.i64 0, Value.int IntKind.i64 0, Value.int IntKind.i64 0, Value.int IntKind.i64 0, Value.int IntKind.i64 0, Value.int IntKind.i64 0, Value.int IntKind.i64 0, Value.int IntKind.i64 0, Value.int IntKind.i64 0]) rfl rfl (by kernel_rfl) (by kernel_rfl) (by kernel_rfl) (fun _ _ _ h => h) (Or.inl ⟨by rfl, by intro W hW; clear hW; go_simp⟩) hHeld ?_
  simp only [put_laws]
  refine wpAnyH_ready (rs := [43]) (by kernel_rfl) (by simp) ?_
  refine AllReadyH.cons rfl (fun K hK => ?_) AllReadyH.nil
  go_simp
  refine (rightZ _).mono ?_
  rintro e we ⟨rfl, hb⟩
  try go_simp
  have hHeld := hHeld.below hb
  refine hK.out _ _ hHeld (fun hHeld => ?_)
  clear hK K
  refine take_at 44 68 (.bool true) rfl rfl (by kernel_rfl) (by kernel_rfl) (by kernel_rfl) (fun _ _ _ h => h) (Or.inl ⟨by rfl, by intro W hW; clear hW; go_simp⟩) hHeld ?_
  simp only [put_laws]
  refine take_at 45 69 (.bool true) rfl rfl (by kernel_rfl) (by kernel_rfl) (by kernel_rfl) (fun _ _ _ h => h) (Or.inl ⟨by rfl, by intro W hW; clear hW; go_simp⟩) hHeld ?_
  simp only [put_laws]
  refine take_at 46 0 (.bool true) rfl rfl (by kernel_rfl) (by kernel_rfl) (by kernel_rfl) (fun _ _ _ h => h) (Or.inl ⟨by rfl, by intro W hW; clear hW; go_simp⟩) hHeld ?_
  simp only [put_laws]
  refine wpAnyH_done (by kernel_rfl) ?_ _
  refine NoPanic.normal ?_
  go_wp2
  go_ret
  exact ⟨rfl, hHeld.st.bel⟩
end Go.Proofs.YtgelfjoacppkcaaDoor
