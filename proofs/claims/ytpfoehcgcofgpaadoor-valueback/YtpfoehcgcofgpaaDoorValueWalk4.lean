/-
  The contract of value.Parse.
-/
import Derived.Test.YtpfoehcgcofgpaaDoorValueWalk3
namespace Go.Proofs.YtpfoehcgcofgpaaDoor
open Go.RowKit
theorem meant_any (l : List UInt8) (w : World) (hL : Laid w) :
    Calls Tryd.prog 30 #[.string (str l)] w fun e w' => ∃ k n ok, e = .returned (.tuple #[.agg #[.int .i64 k, .int .i64 n], .bool ok]) ∧ Meant l k n ok ∧ Below w.heap.size w w' := by
  by_cases h : 20 < l.length
  · refine (meant_long l w h).mono ?_
    rintro e w' ⟨rfl, hb⟩
    exact ⟨_, _, _, rfl, ⟨Va.nought64, .inl ⟨rfl, Va.parsed_long h⟩⟩, hb⟩
  by_cases hn : l = [110, 105, 108]
  · subst hn
    refine (meant_nil w).mono ?_
    rintro e w' ⟨rfl, hb⟩
    exact ⟨_, _, _, rfl, ⟨Va.nought64, .inr ⟨rfl, fun _ => Va.parsed_of_nil, fun h => absurd Va.text_nil h⟩⟩, hb⟩
  · exact meant_int l w (by omega) hn hL
theorem text_ne_eq (l m : List UInt8) (b : Bool) (h : decide (l = m) = b) : ((str l).toList == (str m).toList) = b := by rw [str_eq, h]
set_option maxHeartbeats 2000000 in
set_option maxRecDepth 100000 in
theorem parse_any (l : List UInt8) (w : World) (hL : Laid w) :
    Calls Tryd.prog 20 #[.string (str l)] w fun e w' => ∃ k n x, e = .returned (.tuple #[.agg #[.int .i64 k, .int .i64 n], .int .i64 x]) ∧ Va.Parsed l k n x ∧ Below w.heap.size w w' := by
  have HL := Lib.hid hL
  clear hL
  go_enter Tryd.func20, Tryd.ntmps20
  go_wp2_with fail
  refine (meant_any l _ (HL.out.alloc _)).mono ?_
  rintro e w1 ⟨k, n, ok, rfl, hm, hb⟩
  have v1 := (valAt_new w 0 0 25).below hb
  have hlt := v1.lt
  have c0 := v1.fst
  have c1 := v1.snd
  have f0 := v1.free 0
  have f1 := v1.free 1
  have V1 := Lib.hid v1
  have HB := Lib.hid ((below_new w _).trans (hb.mono (by simp)))
  have HL1 := Lib.hid ((HL.out.alloc _).below hb)
  have HM := Lib.hid hm
  clear v1 hb hm
  cases ok
  · go_wp2
    refine bodyPost_ret (results_valE rfl _ _ w.heap.size 25 _ _ _ _ rfl rfl ((V1.out.put _ _).alloc _) Tryd.underlying25 val_info) rfl ⟨_, _, _, rfl, ?_, (below_put HB.out (Nat.le_refl _) _ _).alloc (by simp [World.setCell]; omega) _⟩
    rcases HM.out.2 with h | h
    · exact h.2
    · cases h.1
  · go_wp2_with fail
    refine (print_any k n _ HM.out.1 (HL1.out.alloc _)).mono ?_
    rintro e w2 ⟨rfl, hb2⟩
    have v2 := (V1.out.alloc (.cells #[.int .i64 k, .int .i64 n] 25)).below hb2
    have u2 := (valAt_new w1 k n 25).below hb2
    have c0 := v2.fst
    have c1 := v2.snd
    have f0 := v2.free 0
    have f1 := v2.free 1
    have d0 := u2.fst
    have d1 := u2.snd
    have V2 := Lib.hid v2
    have HB2 := Lib.hid ((HB.out.alloc (Nat.le_of_lt hlt) _).trans (hb2.mono (by simp; omega)))
    clear v2 u2 hb2
    by_cases ht : Va.text k n = l
    · have he := text_ne_eq (Va.text k n) l true (by simpa using ht)
      have HT := Lib.hid ht
      clear ht
      go_wp2
      refine bodyPost_ret (results_valE rfl _ _ w.heap.size 25 _ _ _ _ rfl rfl (V2.out.put _ _) Tryd.underlying25 val_info) rfl ⟨_, _, _, rfl, ?_, below_put HB2.out (Nat.le_refl _) _ _⟩
      rcases HM.out.2 with h | h
      · cases h.1
      · exact h.2.1 HT.out
    · have he := text_ne_eq (Va.text k n) l false (by simpa using ht)
      have HT := Lib.hid ht
      clear ht
      go_wp2
      refine bodyPost_ret (results_valE rfl _ _ w.heap.size 25 _ _ _ _ rfl rfl (V2.out.put _ _) Tryd.underlying25 val_info) rfl ⟨_, _, _, rfl, ?_, below_put HB2.out (Nat.le_refl _) _ _⟩
      rcases HM.out.2 with h | h
      · cases h.1
      · exact h.2.2 HT.out
end Go.Proofs.YtpfoehcgcofgpaaDoor
