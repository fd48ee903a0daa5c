/-
  The walk of ValueTexts.
-/
import Derived.Test.YtpfoehcgcofgpaaDoorValueAlive
namespace Go.Proofs.YtpfoehcgcofgpaaDoor
open Go.RowKit
set_option maxHeartbeats 4000000 in
set_option maxRecDepth 100000 in
theorem texts_walk (l : List UInt8) (w : World) (hL : Laid w) : Calls Tryd.prog 4 #[.string (str l)] w fun e w' => e = .returned (.bool true) ∧ Below w.heap.size w w' := by
  have HL := Lib.hid hL
  have hz := str_size l
  clear hL
  by_cases hlen : 200 < l.length
  · go_enter Tryd.func4, Tryd.ntmps4
    go_wp2_with fail
    refine (alive_any _ HL.out).mono ?_
    rintro e w1 ⟨rfl, hb1⟩
    go_wp2
    go_ret
    exact ⟨rfl, hb1⟩
  · have HC := Lib.hid hlen
    go_enter Tryd.func4, Tryd.ntmps4
    go_wp2_with fail
    refine (alive_any _ HL.out).mono ?_
    rintro e w1 ⟨rfl, hb1⟩
    have HL1 := Lib.hid (HL.out.below hb1)
    go_wp2_with fail
    refine (parse_any l _ HL1.out).mono ?_
    rintro e w2 ⟨k, n, x, rfl, hp, hb2⟩
    have HP := Lib.hid hp
    have HB2 := Lib.hid ((hb1.trans (hb2.mono hb1.size)).alloc (by have := hb1.size; have := hb2.size; omega) (.cells #[.int .i64 k, .int .i64 n] 25))
    have HL2 := Lib.hid ((HL1.out.below hb2).alloc (.cells #[.int .i64 k, .int .i64 n] 25))
    have hs2 : w.heap.size ≤ w2.heap.size := by have := hb1.size; have := hb2.size; omega
    clear hb1 hb2 hp
    go_wp2_with fail
    refine (rparse_any l _ (by have := HC.out; omega) HL2.out).mono ?_
    rintro e w3 ⟨k', n', x', rfl, hp, hb3⟩
    obtain ⟨rfl, rfl, rfl⟩ := HP.out.same hp
    have HB3 := Lib.hid ((HB2.out.trans (hb3.mono (by simp; omega))).alloc (by have := hb3.size; simp at this; omega) (.cells #[.int .i64 k, .int .i64 n] 23))
    have v3 := (valAt_new w2 k n 25).below hb3
    have c0 := v3.fst
    have c1 := v3.snd
    have hlt := v3.lt
    clear hp hb3 v3
    go_wp2
    go_ret
    exact ⟨rfl, HB3.out⟩
end Go.Proofs.YtpfoehcgcofgpaaDoor
