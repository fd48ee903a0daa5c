/-
  The walk of ValueShapes.
-/
import Derived.Test.YtpfoehcgcofgpaaDoorValueAlive
import Derived.BigQuiet
namespace Go.Proofs.YtpfoehcgcofgpaaDoor
open Go.RowKit
set_option maxHeartbeats 4000000 in
set_option maxRecDepth 100000 in
theorem shapes_walk (k n : Int) (w : World) (hn : Va.i64p n) (hL : Laid w) : Calls Tryd.prog 8 #[.agg #[.int .i64 k, .int .i64 n]] w fun e w' => e = .returned (.bool true) ∧ Below w.heap.size w w' := by
  have HL := Lib.hid hL
  have HN := Lib.hid hn
  clear hL hn
  go_enter Tryd.func8, Tryd.ntmps8
  go_wp2_with fail
  refine (alive_any _ (HL.out.alloc _)).mono ?_
  rintro e w1 ⟨rfl, hb1⟩
  have v1 := (valAt_new w k n 23).below hb1
  have c0 := v1.fst
  have c1 := v1.snd
  have hlt1 := v1.lt
  have HL1 := Lib.hid (((HL.out.alloc (.cells #[.int .i64 k, .int .i64 n] 23)).below hb1).alloc (.cells #[.int .i64 k, .int .i64 n] 25))
  have HB1 := Lib.hid (((below_new w (.cells #[.int .i64 k, .int .i64 n] 23)).trans (hb1.mono (by simp))).alloc (by omega) (.cells #[.int .i64 k, .int .i64 n] 25))
  have HV1 := Lib.hid (valAt_new w1 k n 25)
  clear hb1 v1
  go_wp2_with fail
  refine (print_any k n _ HN.out HL1.out).mono ?_
  rintro e w2 ⟨rfl, hb2⟩
  have HB2 := Lib.hid (HB1.out.trans (hb2.mono (by simp; omega)))
  have HV2 := Lib.hid (HV1.out.below hb2)
  have c0 := HV2.out.fst
  have c1 := HV2.out.snd
  clear hb2
  cases hr : Va.right k n
  · have ht := Va.text_wrong hr
    have HR := Lib.hid hr
    have he : ((str (Va.text k n)).toList == []) = true := by rw [ht, str_toList]; rfl
    clear hr ht
    go_wp2_with fail
    refine (right_val k n _ _ HR.out).mono ?_
    rintro e w3 ⟨rfl, hb3⟩
    have HB3 := Lib.hid (HB2.out.trans (hb3.mono HB2.out.size))
    clear hb3
    go_wp2
    go_ret
    exact ⟨rfl, HB3.out⟩
  · have HR := Lib.hid hr
    rcases Va.right_cases hr with ⟨rfl, rfl⟩ | rfl | ⟨rfl, h0, h1⟩
    · have he : ((str (Va.text 0 0)).toList == [110, 105, 108]) = true := by rw [Va.text_nil, str_toList]; rfl
      clear hr
      go_wp2_with fail
      refine (right_val 0 0 _ _ HR.out).mono ?_
      rintro e w3 ⟨rfl, hb3⟩
      have HB3 := Lib.hid (HB2.out.trans (hb3.mono HB2.out.size))
      have HV3 := Lib.hid (HV2.out.below hb3)
      have c0 := HV3.out.fst
      have c1 := HV3.out.snd
      clear hb3
      go_wp2
      go_ret
      exact ⟨rfl, HB3.out⟩
    · obtain ⟨c, r, e, g1, g2⟩ := Va.itoa_head n
      have he : ((str (Va.text 1 n)).toList == [110, 105, 108]) = false := by rw [Va.text_int]; exact nil_no Va.itoa_not_nil
      have hz : (str (Va.text 1 n)).size = r.length + 1 := by rw [Va.text_int, e]; rfl
      have hc : ∀ h, ((((str (Va.text 1 n))[0]'h).toNat : Nat) : Int) = ((c.toNat : Nat) : Int) := by rw [Va.text_int, e]; exact fun h => by rw [str_first]
      have h64 : (((c.toNat : Nat) : Int) == 64) = false := byte_ne (c := c) (d := 64) (by
        intro h; subst h
        rcases Va.itoa_first e with h | h
        · cases h
        · exact absurd h.2 (by decide))
      have h45 : (((c.toNat : Nat) : Int) == 45) = decide (n < 0) := by
        by_cases hneg : n < 0
        · rw [g1 hneg, decide_eq_true hneg]; rfl
        · rw [decide_eq_false hneg]
          exact byte_ne (c := c) (d := 45) (by intro h; subst h; exact absurd (g2 (by omega)).1 (by decide))
      clear hr e g1 g2
      go_wp2_with fail
      refine (right_val 1 n _ _ HR.out).mono ?_
      rintro e w3 ⟨rfl, hb3⟩
      have HB3 := Lib.hid (HB2.out.trans (hb3.mono HB2.out.size))
      have HV3 := Lib.hid (HV2.out.below hb3)
      have c0 := HV3.out.fst
      have c1 := HV3.out.snd
      clear hb3
      go_wp2
      go_quiet (fail)
      go_wp2
      go_ret
      exact ⟨rfl, below_drewN HB3.out _⟩
    · have he : ((str (Va.text 2 n)).toList == [110, 105, 108]) = false := by rw [Va.text_ref h0 h1]; exact nil_no (by simp)
      have hz : (str (Va.text 2 n)).size = (Lib.itoa n).length + 1 := by rw [Va.text_ref h0 h1]; rfl
      have hc : ∀ h, ((str (Va.text 2 n))[0]'h).toNat = 64 := by rw [Va.text_ref h0 h1]; exact fun h => by rw [str_first]; rfl
      clear hr
      go_wp2_with fail
      refine (right_val 2 n _ _ HR.out).mono ?_
      rintro e w3 ⟨rfl, hb3⟩
      have HB3 := Lib.hid (HB2.out.trans (hb3.mono HB2.out.size))
      have HV3 := Lib.hid (HV2.out.below hb3)
      have c0 := HV3.out.fst
      have c1 := HV3.out.snd
      clear hb3
      go_wp2
      go_ret
      exact ⟨rfl, HB3.out⟩
end Go.Proofs.YtpfoehcgcofgpaaDoor
