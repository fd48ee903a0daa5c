/-
  The contract of the statements' own first look: the answers that the document fixes are given.
-/
import Derived.Test.YtpfoehcgcofgpaaDoorValueRef
namespace Go.Proofs.YtpfoehcgcofgpaaDoor
open Go.RowKit
theorem below_drewN {B : Nat} {a w : World} (h : Below B a w) (n : Nat) : Below B a (w.drewN n) := h.trans ⟨rfl, rfl, rfl, Nat.le_refl _, fun _ _ => rfl⟩
theorem parse_val (l : List UInt8) (k n x : Int) (w : World) (h : Va.Parsed l k n x) (hL : Laid w) :
    Calls Tryd.prog 20 #[.string (str l)] w fun e w' => e = .returned (.tuple #[.agg #[.int .i64 k, .int .i64 n], .int .i64 x]) ∧ Below w.heap.size w w' := by
  refine (parse_any l w hL).mono ?_
  rintro e w' ⟨k', n', x', rfl, hp, hb⟩
  obtain ⟨rfl, rfl, rfl⟩ := hp.same h
  exact ⟨rfl, hb⟩
theorem itoa_three : Lib.itoa 3 = [51] := by
  have := Lib.itoa_nonneg 3
  rw [Lib.decDigits_one (by omega)] at this
  exact this
theorem itoa_nought : Lib.itoa 0 = [48] := by
  have := Lib.itoa_nonneg 0
  rw [Lib.decDigits_one (by omega)] at this
  exact this
theorem text_at3 : Va.text 2 3 = [64, 51] := by rw [Va.text_ref (by omega) (by omega), itoa_three]
theorem parsed_at3 : Va.Parsed [64, 51] 2 3 0 := ⟨by unfold Va.i64p; omega, .inl ⟨rfl, by decide, text_at3⟩⟩
theorem parsed_minus : Va.Parsed [45, 48] 0 0 8 := by
  refine (Va.parsed_cand (l := [45, 48]) (by simp)).2 ?_
  rw [show Va.cand [45, 48] = (1, 0) by decide +kernel]
  rw [Va.text_int, itoa_nought]
  decide
theorem parse_at3 (w : World) (hL : Laid w) :
    Calls Tryd.prog 20 #[.string ⟨#[64, 51]⟩] w fun e w' => e = .returned (.tuple #[.agg #[.int .i64 2, .int .i64 3], .int .i64 0]) ∧ Below w.heap.size w w' := parse_val [64, 51] 2 3 0 w parsed_at3 hL
theorem parse_minus (w : World) (hL : Laid w) :
    Calls Tryd.prog 20 #[.string ⟨#[45, 48]⟩] w fun e w' => e = .returned (.tuple #[.agg #[.int .i64 0, .int .i64 0], .int .i64 8]) ∧ Below w.heap.size w w' := parse_val [45, 48] 0 0 8 w parsed_minus hL
theorem add_23 (w : World) : Calls Tryd.prog 10 #[.agg #[.int .i64 1, .int .i64 2], .agg #[.int .i64 1, .int .i64 3]] w fun e w' => e = .returned (.tuple #[.agg #[.int .i64 1, .int .i64 5], .int .i64 0]) ∧ Below w.heap.size w w' := by
  have := add_any 1 2 1 3 w
  rw [did_ints] at this
  exact (show wrap64 (2 + 3) = 5 by decide +kernel) ▸ this
theorem sub_53 (w : World) : Calls Tryd.prog 11 #[.agg #[.int .i64 1, .int .i64 5], .agg #[.int .i64 2, .int .i64 3]] w fun e w' => e = .returned (.tuple #[.agg #[.int .i64 0, .int .i64 0], .int .i64 7]) ∧ Below w.heap.size w w' := by
  have := sub_any 1 5 2 3 w
  rw [did_else _ (.inr (by omega))] at this
  exact this
theorem print_val (k n : Int) (l : List UInt8) (w : World) (hn : Va.i64p n) (h : Va.text k n = l) (hL : Laid w) :
    Calls Tryd.prog 18 #[.agg #[.int .i64 k, .int .i64 n]] w fun e w' => e = .returned (.string (str l)) ∧ Below w.heap.size w w' := by
  subst h; exact print_any k n w hn hL
theorem print_at3 (w : World) (hL : Laid w) : Calls Tryd.prog 18 #[.agg #[.int .i64 2, .int .i64 3]] w fun e w' => e = .returned (.string ⟨#[64, 51]⟩) ∧ Below w.heap.size w w' := print_val 2 3 [64, 51] w (by unfold Va.i64p; omega) text_at3 hL
theorem print_00 (w : World) (hL : Laid w) : Calls Tryd.prog 18 #[.agg #[.int .i64 0, .int .i64 0]] w fun e w' => e = .returned (.string ⟨#[110, 105, 108]⟩) ∧ Below w.heap.size w w' := print_val 0 0 [110, 105, 108] w Va.nought64 Va.text_nil hL
set_option maxHeartbeats 4000000 in
set_option maxRecDepth 100000 in
theorem alive_any (w : World) (hL : Laid w) : Calls Tryd.prog 9 #[] w fun e w' => e = .returned (.bool true) ∧ Below w.heap.size w w' := by
  have HL := Lib.hid hL
  clear hL
  go_enter Tryd.func9, Tryd.ntmps9
  go_wp2_with fail
  refine (parse_at3 _ HL.out).mono ?_
  rintro e w1 ⟨rfl, hb1⟩
  have HL1 := Lib.hid ((HL.out.below hb1).alloc (.cells #[.int .i64 2, .int .i64 3] 25))
  have HB1 := Lib.hid (hb1.alloc hb1.size (.cells #[.int .i64 2, .int .i64 3] 25))
  have HV1 := Lib.hid (valAt_new w1 2 3 25)
  have hs1 := hb1.size
  clear hb1
  go_wp2_with fail
  refine (parse_minus _ HL1.out).mono ?_
  rintro e w2 ⟨rfl, hb2⟩
  have HL2 := Lib.hid ((HL1.out.below hb2).alloc (.cells #[.int .i64 0, .int .i64 0] 25))
  have hs2 : w1.heap.size + 1 ≤ w2.heap.size := by have := hb2.size; simpa using this
  have HB2 := Lib.hid ((HB1.out.trans (hb2.mono (by simp; omega))).alloc (by omega) (.cells #[.int .i64 0, .int .i64 0] 25))
  have HV2 := Lib.hid ((HV1.out.below hb2).alloc (.cells #[.int .i64 0, .int .i64 0] 25))
  clear hb2
  go_wp2_with fail
  refine (add_23 _).mono ?_
  rintro e w3 ⟨rfl, hb3⟩
  have hs3 : w2.heap.size + 1 ≤ w3.heap.size := by have := hb3.size; simpa using this
  have HL3 := Lib.hid ((HL2.out.below hb3).alloc (.cells #[.int .i64 1, .int .i64 5] 25))
  have HB3 := Lib.hid ((HB2.out.trans (hb3.mono (by simp; omega))).alloc (by omega) (.cells #[.int .i64 1, .int .i64 5] 25))
  have HV3 := Lib.hid ((HV2.out.below hb3).alloc (.cells #[.int .i64 1, .int .i64 5] 25))
  have HW3 := Lib.hid (valAt_new w3 1 5 25)
  have c0 := (HV2.out.below hb3).fst
  have c1 := (HV2.out.below hb3).snd
  have hlt : w1.heap.size < w3.heap.size := by omega
  clear hb3
  go_wp2_with fail
  refine (sub_53 _).mono ?_
  rintro e w4 ⟨rfl, hb4⟩
  have hs4 : w3.heap.size + 1 ≤ w4.heap.size := by have := hb4.size; simpa using this
  have HL4 := Lib.hid ((HL3.out.below hb4).alloc (.cells #[.int .i64 0, .int .i64 0] 25))
  have HB4 := Lib.hid ((HB3.out.trans (hb4.mono (by simp; omega))).alloc (by omega) (.cells #[.int .i64 0, .int .i64 0] 25))
  have HV4 := Lib.hid (HV3.out.below hb4)
  have c0 := (HV3.out.below hb4).fst
  have c1 := (HV3.out.below hb4).snd
  have d0 := (HW3.out.below hb4).fst
  have d1 := (HW3.out.below hb4).snd
  have hlt1 : w1.heap.size < w4.heap.size := by omega
  have hlt3 : w3.heap.size < w4.heap.size := by omega
  clear hb4
  go_wp2_with fail
  refine (print_at3 _ HL4.out).mono ?_
  rintro e w5 ⟨rfl, hb5⟩
  have hs5 : w4.heap.size + 1 ≤ w5.heap.size := by have := hb5.size; simpa using this
  have HL5 := Lib.hid (HL4.out.below hb5)
  have HB5 := Lib.hid (HB4.out.trans (hb5.mono (by simp; omega)))
  have HV5 := Lib.hid ((HV4.out.alloc (.cells #[.int .i64 0, .int .i64 0] 25)).below hb5)
  have c0 := HV5.out.fst
  have c1 := HV5.out.snd
  clear hb5
  go_wp2_with fail
  refine (right_val 2 3 true _ (by decide)).mono ?_
  rintro e w6 ⟨rfl, hb6⟩
  have HL6 := Lib.hid (HL5.out.below hb6)
  have HB6 := Lib.hid (HB5.out.trans (hb6.mono (by omega)))
  clear hb6
  go_wp2_with fail
  refine (print_00 _ HL6.out).mono ?_
  rintro e w7 ⟨rfl, hb7⟩
  have HB7 := Lib.hid (HB6.out.trans (hb7.mono HB6.out.size))
  clear hb7
  go_wp2
  go_ret
  exact ⟨rfl, HB7.out⟩
end Go.Proofs.YtpfoehcgcofgpaaDoor
