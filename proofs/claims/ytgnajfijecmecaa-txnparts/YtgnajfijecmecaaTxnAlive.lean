/-
  The statements' first question: answers that the document fixes.
-/
import Derived.Test.YtgnajfijecmecaaTxnReads
namespace Go.Proofs.Ytgnajfijecmecaa.Tx
open Go.RowKit
theorem theirs_sl (A : Option Addr) (c : Nat) (L : List Sp) (w : World) (h : VarsAt w A L) (hl : L.length ≤ 300) : Calls Try.prog 9 #[.slice A L.length c] w (SlPost L w) := by
  refine (theirs_any A c L w h hl).mono ?_
  rintro e w' ⟨v, rfl, ho, hb⟩
  obtain ⟨T, d, rfl, hv⟩ := ho.sl
  exact ⟨T, d, rfl, hv, hb⟩
theorem ours_sl (A : Option Addr) (c : Nat) (L : List Sp) (w : World) (h : VarsAt w A L) (hl : L.length ≤ 300) : Calls Try.prog 11 #[.slice A L.length c] w (SlPost L w) := by
  refine (ours_any A c L w h hl).mono ?_
  rintro e w' ⟨v, rfl, ho, hb⟩
  obtain ⟨T, d, rfl, hv⟩ := ho.sl
  exact ⟨T, d, rfl, hv, hb⟩
def s5 : Sp := ⟨1, 1, 5, true⟩
def s6 : Sp := ⟨1, 1, 6, true⟩
def r6 : Sp := ⟨2, 1, 6, false⟩
theorem i64c {n : Int} (h0 : -9223372036854775808 ≤ n) (h1 : n ≤ 9223372036854775807) : i64p n := ⟨h0, h1⟩
theorem al1 (w : World) : Calls Try.prog 10 #[.slice none 0 0, .int .i64 1, .agg #[.int .i64 1, .int .i64 5]] w fun e w' => ∃ T d, e = .returned (.tuple #[.slice T 1 d, .int .i64 0]) ∧ SlAt w' T d [s5] ∧ Below w.heap.size w w' :=
  write_any none 0 [] 1 1 5 w (VarsAt.none_ _ _) (by decide) (i64c (by decide) (by decide)) (i64c (by decide) (by decide)) (i64c (by decide) (by decide))
theorem al2 (A : Option Addr) (c : Nat) (w : World) (h : VarsAt w A [s5]) : Calls Try.prog 10 #[.slice A 1 c, .int .i64 1, .agg #[.int .i64 1, .int .i64 6]] w fun e w' => ∃ T d, e = .returned (.tuple #[.slice T 2 d, .int .i64 0]) ∧ SlAt w' T d [s5, s6] ∧ Below w.heap.size w w' :=
  write_any A c [s5] 1 1 6 w h (by decide) (i64c (by decide) (by decide)) (i64c (by decide) (by decide)) (i64c (by decide) (by decide))
theorem al3 (A : Option Addr) (c : Nat) (w : World) (h : VarsAt w A [s5, s6]) : Calls Try.prog 15 #[.slice A 2 c, .int .i64 2, .agg #[.int .i64 1, .int .i64 6]] w fun e w' => ∃ T d, e = .returned (.tuple #[.slice T 3 d, .int .i64 0]) ∧ SlAt w' T d [s5, s6, r6] ∧ Below w.heap.size w w' :=
  read_any A c [s5, s6] 2 1 6 w h (by decide) (i64c (by decide) (by decide)) (i64c (by decide) (by decide)) (i64c (by decide) (by decide))
theorem al4 (A : Option Addr) (c : Nat) (w : World) (h : SlAt w A c [s5, s6, r6]) : Calls Try.prog 12 #[.slice A 3 c, .int .i64 1] w fun e w' => ∃ T d, e = .returned (.tuple #[.slice T 2 d, .int .i64 0]) ∧ SlAt w' T d [s5, r6] ∧ Below w.heap.size w w' :=
  back_yes A c 1 [s5, s6, r6] w h.at_ h.le h.max (by decide) (by decide)
theorem al5 (A : Option Addr) (c : Nat) (w : World) (h : VarsAt w A [s5, r6]) : Calls Try.prog 14 #[.slice A 2 c, .int .i64 1] w fun e w' => e = .returned (.tuple #[.agg #[.int .i64 1, .int .i64 5], .bool true]) ∧ Below w.heap.size w w' :=
  look_any A c [s5, r6] 1 w h (by decide)
theorem al6 (A : Option Addr) (c : Nat) (w : World) (h : VarsAt w A [s5, s6, r6]) : Calls Try.prog 14 #[.slice A 3 c, .int .i64 1] w fun e w' => e = .returned (.tuple #[.agg #[.int .i64 1, .int .i64 6], .bool true]) ∧ Below w.heap.size w w' :=
  look_any A c [s5, s6, r6] 1 w h (by decide)
theorem al7 (A : Option Addr) (c : Nat) (w : World) (h : VarsAt w A [s5, r6]) : Calls Try.prog 17 #[.slice A 2 c] w fun e w' => ∃ T d, e = .returned (.slice T 1 d) ∧ SlAt w' T d (readsL [s5, r6]) ∧ Below w.heap.size w w' :=
  reads_any A c [s5, r6] w h (by decide)
theorem al8 (A : Option Addr) (c : Nat) (w : World) (h : VarsAt w A [s5, s6, r6]) : Calls Try.prog 16 #[.slice A 3 c] w fun e w' => ∃ T d, e = .returned (.slice T 1 d) ∧ SlAt w' T d (writesL [s5, s6, r6]) ∧ Below w.heap.size w w' :=
  writes_any A c [s5, s6, r6] w h (by decide)
theorem Blk.below {W W' : World} {b : Nat} {cs : Array Value} {t : TypeId} (h : Blk W b cs t) (hb : Below W.heap.size W W') : Blk W' b cs t := (hb.block b h.lt).trans h
theorem Blk.v0 {W : World} {b : Nat} {u v : Value} {t : TypeId} (h : Blk W b #[u, v] t) : W.cell? ⟨b, 0, none⟩ = some u := h.cell 0
theorem Blk.v1 {W : World} {b : Nat} {u v : Value} {t : TypeId} (h : Blk W b #[u, v] t) : W.cell? ⟨b, 1, none⟩ = some v := h.cell 1
/-- five and six in their blocks, a world that only grew. -/
structure AlSt (w : World) (W : World) : Prop where
  five : Blk W w.heap.size #[.int .i64 1, .int .i64 5] 34
  six : Blk W (w.heap.size + 1) #[.int .i64 1, .int .i64 6] 34
  bel : Below w.heap.size w W
theorem AlSt.below {w W W' : World} (h : AlSt w W) (hb : Below W.heap.size W W') : AlSt w W' := ⟨h.five.below hb, h.six.below hb, h.bel.trans (hb.mono h.bel.size)⟩
theorem alSt_start (w : World) : AlSt w ((w.alloc (.cells #[.int .i64 1, .int .i64 5] 34)).alloc (.cells #[.int .i64 1, .int .i64 6] 34)) :=
  ⟨(Blk.new w _ _).alloc _, Blk.new' (by simp) _ _, ((Below.refl _ w).alloc (Nat.le_refl _) _).alloc (by simp) _⟩
set_option maxHeartbeats 4000000 in
set_option maxRecDepth 100000 in
theorem alive_any (w : World) : Calls Try.prog 8 #[] w fun e w' => e = .returned (.bool true) ∧ Below w.heap.size w w' := by
  have S0 := Lib.hid (alSt_start w)
  have f0 := S0.out.five.v0
  have f1 := S0.out.five.v1
  have g0 := S0.out.six.v0
  have g1 := S0.out.six.v1
  go_enter Try.func8, Try.ntmps8
  go_wp2_with fail
  refine (al1 _).mono ?_
  rintro e w1 ⟨T1, d1, rfl, h1, hb1⟩
  have H1 := Lib.hid h1
  have S1 := Lib.hid (S0.out.below hb1)
  have g0 := S1.out.six.v0
  have g1 := S1.out.six.v1
  clear h1 hb1
  go_wp2_with fail
  refine (save_any _ _ _ _).mono ?_
  rintro e w1' ⟨rfl, rfl⟩
  go_wp2_with fail
  refine (al2 _ _ _ H1.out.at_).mono ?_
  rintro e w2 ⟨T2, d2, rfl, h2, hb2⟩
  have H2 := Lib.hid h2
  have S2 := Lib.hid (S1.out.below hb2)
  have g0 := S2.out.six.v0
  have g1 := S2.out.six.v1
  clear h2 hb2
  go_wp2_with fail
  refine (al3 _ _ _ H2.out.at_).mono ?_
  rintro e w3 ⟨T3, d3, rfl, h3, hb3⟩
  have H3 := Lib.hid h3
  have S3 := Lib.hid (S2.out.below hb3)
  clear h3 hb3
  go_wp2_with fail
  refine (al4 _ _ _ H3.out).mono ?_
  rintro e w4 ⟨T4, d4, rfl, h4, hb4⟩
  have H4 := Lib.hid h4
  have H34 := Lib.hid (H3.out.below hb4)
  have S4 := Lib.hid (S3.out.below hb4)
  clear h4 hb4
  go_wp2_with fail
  refine (al5 _ _ _ H4.out.at_).mono ?_
  rintro e w5 ⟨rfl, hb5⟩
  have hb5' := hb5.trans ((below_new w5 (.cells #[.int .i64 1, .int .i64 5] 34)).mono hb5.size)
  have H45 := Lib.hid (H4.out.below hb5')
  have H35 := Lib.hid (H34.out.below hb5')
  have S5 := Lib.hid (S4.out.below hb5')
  have V5 := Lib.hid (Blk.new w5 #[.int .i64 1, .int .i64 5] 34)
  clear hb5 hb5'
  go_wp2_with fail
  refine (al6 _ _ _ H35.out.at_).mono ?_
  rintro e w6 ⟨rfl, hb6⟩
  have hb6' := hb6.trans ((below_new w6 (.cells #[.int .i64 1, .int .i64 6] 34)).mono hb6.size)
  have H46 := Lib.hid (H45.out.below hb6')
  have H36 := Lib.hid (H35.out.below hb6')
  have S6 := Lib.hid (S5.out.below hb6')
  have V6 := Lib.hid (V5.out.below hb6')
  have X6 := Lib.hid (Blk.new w6 #[.int .i64 1, .int .i64 6] 34)
  have f0 := S6.out.five.v0
  have f1 := S6.out.five.v1
  have g0 := S6.out.six.v0
  have g1 := S6.out.six.v1
  have v0 := V6.out.v0
  have v1 := V6.out.v1
  have x0 := X6.out.v0
  have x1 := X6.out.v1
  clear hb6 hb6'
  go_wp2_with fail
  refine (al7 _ _ _ H46.out.at_).mono ?_
  rintro e w7 ⟨T7, d7, rfl, h7, hb7⟩
  have H37 := Lib.hid (H36.out.below hb7)
  have S7 := Lib.hid (S6.out.below hb7)
  clear h7 hb7
  go_wp2_with fail
  refine (al8 _ _ _ H37.out.at_).mono ?_
  rintro e w8 ⟨T8, d8, rfl, h8, hb8⟩
  have S8 := Lib.hid (S7.out.below hb8)
  clear h8 hb8
  go_wp2
  go_ret
  exact ⟨rfl, S8.out.bel⟩
end Go.Proofs.Ytgnajfijecmecaa.Tx
