/-
  The statements' first question: answers that the document fixes.
-/
import Derived.Test.YtgbfdfkodocdiaaStoreVals
import Derived.Laws.StructEq
namespace Go.Proofs.Ytgbfdfkodocdiaa
open Go.RowKit St
def va : Vr := ⟨1, 7, 3, 4, 0⟩
def vb : Vr := ⟨1, 7, 3, 4, 32⟩
theorem new2 (w : World) : Calls Try.prog 17 #[.int .i64 2] w fun e w' => ∃ A c, e = .returned (.tuple #[.slice A 2 c, .bool true]) ∧ VarsAt w' A [fresh, fresh] ∧ Below w.heap.size w w' :=
  new_yes 2 w (by decide)
theorem put2 (A : Option Addr) (c : Nat) (w : World) (h : VarsAt w A [fresh, fresh]) :
    Calls Try.prog 13 #[.slice A 2 c, .int .i64 1, .agg #[.int .i64 1, .int .i64 7], .int .i64 3, .int .i64 4] w fun e w' => ∃ A c, e = .returned (.tuple #[.slice A 2 c, .int .i64 0]) ∧ VarsAt w' A [fresh, va] ∧ Below w.heap.size w w' :=
  put_yes A c 1 [fresh, fresh] 1 7 3 4 w h (by decide) (by decide) (by decide) (by decide) ⟨by decide, by decide⟩ ⟨by decide, by decide⟩ ⟨by decide, by decide⟩ ⟨by decide, by decide⟩
theorem mark2 (A : Option Addr) (c : Nat) (w : World) (h : VarsAt w A [fresh, va]) :
    Calls Try.prog 15 #[.slice A 2 c, .int .i64 1, .int .i64 5] w fun e w' => ∃ A c, e = .returned (.tuple #[.slice A 2 c, .int .i64 0]) ∧ VarsAt w' A [fresh, vb] ∧ Below w.heap.size w w' :=
  mark_yes A c 1 [fresh, va] 5 va w h (by decide) rfl (by decide)
theorem get2 (A : Option Addr) (c : Nat) (w : World) (h : VarsAt w A [fresh, vb]) :
    Calls Try.prog 11 #[.slice A 2 c, .int .i64 1] w fun e w' => e = .returned (.tuple #[.agg #[.int .i64 1, .int .i64 7, .int .i64 3, .int .i64 4, .int .u64 32], .int .i64 0]) ∧ Below w.heap.size w w' := by
  have := get_any A c [fresh, vb] 1 w h
  rw [getR_yes (by decide)] at this
  exact this
theorem get3 (A : Option Addr) (c : Nat) (w : World) (h : VarsAt w A [fresh, vb]) :
    Calls Try.prog 11 #[.slice A 2 c, .int .i64 2] w fun e w' => e = .returned (.tuple #[.agg #[.int .i64 0, .int .i64 0, .int .i64 0, .int .i64 0, .int .u64 0], .int .i64 3]) ∧ Below w.heap.size w w' := by
  have := get_any A c [fresh, vb] 2 w h
  rw [getR_no (by decide)] at this
  exact this
theorem drop2 (A : Option Addr) (c : Nat) (w : World) (h : VarsAt w A [fresh, vb]) :
    Calls Try.prog 22 #[.slice A 2 c, .int .i64 4] w fun e w' => ∃ g c, e = .returned (.slice (some ⟨g, 0, none⟩) 2 c) ∧ w'.cell? ⟨g, 8, none⟩ = some (.int .i64 (-1)) ∧ Below w.heap.size w w' := by
  refine (drop_any A c [fresh, vb] 4 w h (by decide) (by decide) (by decide)).mono ?_
  rintro e w' ⟨v, rfl, ho, hb⟩
  obtain ⟨g, cap, rfl, _⟩ := ho.open_ (by decide)
  exact ⟨g, cap, rfl, ho.get' (j := 1) rfl 3 (by decide), hb⟩
theorem values2 (A : Option Addr) (c : Nat) (w : World) (h : VarsAt w A [fresh, vb]) :
    Calls Try.prog 19 #[.slice A 2 c] w fun e w' => ∃ g, e = .returned (.slice (some ⟨g, 0, none⟩) 2 2) ∧ w'.cell? ⟨g, 3, none⟩ = some (.int .i64 7) ∧ w'.cell? ⟨g, 0, none⟩ = some (.int .i64 1) ∧ Below w.heap.size w w' := by
  refine (values_any A c [fresh, vb] w h (by decide)).mono ?_
  rintro e w' ⟨g, rfl, ho, hb⟩
  exact ⟨g, rfl, ho.get1 (j := 1) rfl, ho.get0 (j := 0) rfl, hb⟩
set_option maxHeartbeats 2000000 in
set_option maxRecDepth 100000 in
theorem alive_any (w : World) : Calls Try.prog 9 #[] w fun e w' => e = .returned (.bool true) ∧ Below w.heap.size w w' := by
  go_enter Try.func9, Try.ntmps9
  go_wp2_with fail
  refine (new2 _).mono ?_
  rintro e w1 ⟨A1, k1, rfl, h1, hb1⟩
  have H1 := Lib.hid h1
  have B1 := Lib.hid hb1
  clear h1 hb1
  go_wp2_with fail
  refine (put2 _ _ _ H1.out).mono ?_
  rintro e w2 ⟨A2, k2, rfl, h2, hb2⟩
  have H2 := Lib.hid h2
  have B2 := Lib.hid (B1.out.trans (hb2.mono B1.out.size))
  clear h2 hb2
  go_wp2_with fail
  refine (mark2 _ _ _ H2.out).mono ?_
  rintro e w3 ⟨A3, k3, rfl, h3, hb3⟩
  have H3 := Lib.hid h3
  have B3 := Lib.hid (B2.out.trans (hb3.mono B2.out.size))
  clear h3 hb3
  go_wp2_with fail
  refine (get2 _ _ _ H3.out).mono ?_
  rintro e w4 ⟨rfl, hb4⟩
  have H4 := Lib.hid ((H3.out.below hb4 (Nat.le_refl _)).alloc (.cells #[.int .i64 1, .int .i64 7, .int .i64 3, .int .i64 4, .int .u64 32] 35))
  have B4 := Lib.hid ((B3.out.trans (hb4.mono B3.out.size)).alloc (Nat.le_trans B3.out.size hb4.size) (.cells #[.int .i64 1, .int .i64 7, .int .i64 3, .int .i64 4, .int .u64 32] 35))
  have HV := Lib.hid (varAt_new w4 vb 35)
  clear hb4
  go_wp2_with fail
  refine (get3 _ _ _ H4.out).mono ?_
  rintro e w5 ⟨rfl, hb5⟩
  have H5 := Lib.hid ((H4.out.below hb5 (Nat.le_refl _)).alloc (.cells #[.int .i64 0, .int .i64 0, .int .i64 0, .int .i64 0, .int .u64 0] 35))
  have B5 := Lib.hid ((B4.out.trans (hb5.mono B4.out.size)).alloc (Nat.le_trans B4.out.size hb5.size) (.cells #[.int .i64 0, .int .i64 0, .int .i64 0, .int .i64 0, .int .u64 0] 35))
  have HV5 := Lib.hid ((HV.out.below hb5 HV.out.lt).alloc (.cells #[.int .i64 0, .int .i64 0, .int .i64 0, .int .i64 0, .int .u64 0] 35))
  clear hb5
  go_wp2_with fail
  refine (drop2 _ _ _ H5.out).mono ?_
  rintro e w6 ⟨g6, k6, rfl, c6, hb6⟩
  have H6 := Lib.hid (H5.out.below hb6 (Nat.le_refl _))
  have B6 := Lib.hid (B5.out.trans (hb6.mono B5.out.size))
  have HV6 := Lib.hid (HV5.out.below hb6 HV5.out.lt)
  have C6 := Lib.hid c6
  clear hb6 c6
  go_wp2_with fail
  refine (values2 _ _ _ H6.out).mono ?_
  rintro e w7 ⟨g7, rfl, c7, c8, hb7⟩
  have B7 := Lib.hid (B6.out.trans (hb7.mono B6.out.size))
  have HV7 := HV6.out.below hb7 HV6.out.lt
  have c6 := (hb7.cell (cell_lt C6.out)).trans C6.out
  have v0 := HV7.c0
  have v1 := HV7.c1
  have v2 := HV7.c2
  have v3 := HV7.c3
  have v4 := HV7.c4
  simp only [vb] at v0 v1 v2 v3 v4
  clear hb7 HV7
  go_wp2
  go_ret
  exact ⟨rfl, B7.out⟩
end Go.Proofs.Ytgbfdfkodocdiaa
