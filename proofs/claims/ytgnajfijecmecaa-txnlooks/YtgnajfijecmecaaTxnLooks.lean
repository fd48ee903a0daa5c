/-
  The walk of TxnLooks.
-/
import Derived.Test.YtgnajfijecmecaaTxnOwn
namespace Go.Proofs.Ytgnajfijecmecaa.Tx
open Go.RowKit
structure LookSt (A T : Option Addr) (d : Nat) (L : List Sp) (s : Sp) (w W : World) : Prop where
  law : LawSt A T d L w W
  bs : Blk W w.heap.size (stepA s) 26
theorem LookSt.below {A T : Option Addr} {d : Nat} {L : List Sp} {s : Sp} {w W W' : World} (h : LookSt A T d L s w W) (hb : Below W.heap.size W W') : LookSt A T d L s w W' := ⟨h.law.below hb, h.bs.below hb⟩
theorem addE_rw (L : List Sp) (x k n : Int) : addE L ⟨x, k, n, false⟩ = addE L ⟨x, k, n, true⟩ := rfl
theorem look_wr (L : List Sp) (x k n : Int) : look (L ++ [⟨x, k, n, true⟩]) x = some ⟨x, k, n, true⟩ := by
  unfold look
  rw [wr1_append]
  simp [wr1]
theorem look_rd (L : List Sp) (x k n : Int) : look (L ++ [⟨x, k, n, false⟩]) x = (look L x).or (some ⟨x, k, n, false⟩) := by
  unfold look
  rw [wr1_append, first_append]
  simp [wr1, first]
theorem look_row (A : Option Addr) (c : Nat) (L : List Sp) (x : Int) (o : Option Sp) (w : World) (h : VarsAt w A L) (hl : L.length ≤ 300) (ho : look L x = o) :
    Calls Try.prog 14 #[.slice A L.length c, .int .i64 x] w fun e w' => e = .returned (.tuple #[.agg #[.int .i64 (lookK o), .int .i64 (lookN o)], .bool o.isSome]) ∧ Below w.heap.size w w' := by
  subst ho
  exact look_any A c L x w h hl
set_option maxHeartbeats 4000000 in
set_option maxRecDepth 100000 in
theorem txnLooks_walk (A : Option Addr) (N c : Nat) (L : List Sp) (s : Sp) (w : World) (hL : TxnArg w A N c L) (hs : s.ok) :
    Calls Try.prog 4 #[.slice A N c, .agg #[.int .i64 s.x, .int .i64 s.k, .int .i64 s.n, .bool s.wr]] w fun e w' => e = .returned (.bool true) ∧ Below w.heap.size w w' := by
  obtain ⟨rfl, hc, hm, hA⟩ := hL
  have HA := Lib.hid hA
  have HOS := Lib.hid hs
  have hN : (L.length : Int) ≤ 9223372036854775807 := by unfold maxLen at hm; omega
  clear hA hm hc hs
  have B0 := Lib.hid (below_new w (.cells (stepA s) 26))
  have XS := Lib.hid (Blk.new w (stepA s) 26)
  simp only [stepA] at B0 XS
  go_enter Try.func4, Try.ntmps4
  go_wp2_with fail
  refine (alive_any _).mono ?_
  rintro e w1 ⟨rfl, hb1⟩
  have X1 := Lib.hid (show Blk w1 w.heap.size (stepA s) 26 from XS.out.below hb1)
  have B1 := Lib.hid (B0.out.trans (hb1.mono B0.out.size))
  clear hb1
  by_cases hbig : 250 < L.length
  · have hbig' : (250 : Int) < (L.length : Int) := by omega
    go_wp2
    go_ret
    exact ⟨rfl, B1.out⟩
  have hbig' : ¬ (250 : Int) < (L.length : Int) := by omega
  have HL5 := Lib.hid (show L.length ≤ 250 by omega)
  have HL := Lib.hid (show L.length ≤ 300 by omega)
  go_wp2_with fail
  refine (theirs_sl _ _ _ _ (HA.out.below B1.out (Nat.le_refl _)) HL.out).mono ?_
  rintro e w2 ⟨T, d, rfl, ht, hb2⟩
  have S2 := Lib.hid (show LookSt A T d L s w w2 from ⟨⟨(HA.out.below B1.out (Nat.le_refl _)).below hb2 (Nat.le_refl _), ht, B1.out.trans (hb2.mono B1.out.size)⟩, X1.out.below hb2⟩)
  clear ht hb2
  have a0 := S2.out.bs.s0
  generalize hlo : look L s.x = lo
  have HLO := Lib.hid hlo
  clear hlo
  go_wp2_with fail
  refine (look_row _ _ L s.x lo _ S2.out.law.th.at_ HL.out HLO.out).mono ?_
  rintro e w3 ⟨rfl, hb3⟩
  have hb3' := hb3.trans ((below_new w3 (.cells #[.int .i64 (lookK lo), .int .i64 (lookN lo)] 34)).mono hb3.size)
  have V3 := Lib.hid (Blk.new w3 #[.int .i64 (lookK lo), .int .i64 (lookN lo)] 34)
  have S3 := Lib.hid (S2.out.below hb3')
  clear hb3 hb3' a0
  have a0 := S3.out.bs.s0
  have a1 := S3.out.bs.s1
  have a2 := S3.out.bs.s2
  go_wp2_with fail
  refine (write_any _ _ L s.x s.k s.n _ S3.out.law.th.at_ HL.out HOS.out.1 HOS.out.2.1 HOS.out.2.2).mono ?_
  rintro e w4 ⟨T4, d4, rfl, h4, hb4⟩
  have Y4 := Lib.hid h4
  have V4 := Lib.hid (V3.out.below hb4)
  have S4 := Lib.hid (S3.out.below hb4)
  clear h4 hb4 a0 a1 a2
  have a0 := S4.out.bs.s0
  have a1 := S4.out.bs.s1
  have a2 := S4.out.bs.s2
  go_wp2_with fail
  refine (read_any _ _ L s.x s.k s.n _ S4.out.law.th.at_ HL.out HOS.out.1 HOS.out.2.1 HOS.out.2.2).mono ?_
  rintro e w5 ⟨T5, d5, rfl, h5, hb5⟩
  rw [addE_rw]
  have Z5 := Lib.hid h5
  have Y5 := Lib.hid (Y4.out.below hb5)
  have V5 := Lib.hid (V4.out.below hb5)
  have S5 := Lib.hid (S4.out.below hb5)
  clear h5 hb5 a0 a1 a2
  by_cases he : addE L ⟨s.x, s.k, s.n, true⟩ = 0
  · have hY : addL L ⟨s.x, s.k, s.n, true⟩ = L ++ [⟨s.x, s.k, s.n, true⟩] := by unfold addL; rw [if_pos he]
    have hZ : addL L ⟨s.x, s.k, s.n, false⟩ = L ++ [⟨s.x, s.k, s.n, false⟩] := by unfold addL; rw [addE_rw, if_pos he]
    have HY := Lib.hid (show (addL L ⟨s.x, s.k, s.n, true⟩).length ≤ 300 from addL_300 HL5.out _)
    have HZ := Lib.hid (show (addL L ⟨s.x, s.k, s.n, false⟩).length ≤ 300 from addL_300 HL5.out _)
    have HYL := Lib.hid (show look (addL L ⟨s.x, s.k, s.n, true⟩) s.x = some ⟨s.x, s.k, s.n, true⟩ by rw [hY, look_wr])
    have HZL := Lib.hid (show look (addL L ⟨s.x, s.k, s.n, false⟩) s.x = lo.or (some ⟨s.x, s.k, s.n, false⟩) by rw [hZ, look_rd, HLO.out])
    clear hY hZ
    rw [he]
    have a0 := S5.out.bs.s0
    go_wp2_with fail
    refine (look_row _ _ _ s.x _ _ Y5.out.at_ HY.out HYL.out).mono ?_
    rintro e w6 ⟨rfl, hb6⟩
    simp only [lookK, lookN, Option.map_some, Option.getD_some, Option.isSome_some]
    have hb6' := hb6.trans ((below_new w6 (.cells #[.int .i64 s.k, .int .i64 s.n] 34)).mono hb6.size)
    have W6 := Lib.hid (Blk.new w6 #[.int .i64 s.k, .int .i64 s.n] 34)
    have Z6 := Lib.hid (Z5.out.below hb6')
    have V6 := Lib.hid (V5.out.below hb6')
    have S6 := Lib.hid (S5.out.below hb6')
    clear hb6 hb6' a0
    have a0 := S6.out.bs.s0
    cases lo with
    | none =>
      go_wp2_with fail
      refine (look_row _ _ _ s.x _ _ Z6.out.at_ HZ.out HZL.out).mono ?_
      rintro e w7 ⟨rfl, hb7⟩
      simp only [lookK, lookN, Option.none_or, Option.map_some, Option.getD_some, Option.isSome_some]
      have hb7' := hb7.trans ((below_new w7 (.cells #[.int .i64 s.k, .int .i64 s.n] 34)).mono hb7.size)
      have U7 := Lib.hid (Blk.new w7 #[.int .i64 s.k, .int .i64 s.n] 34)
      have W7 := Lib.hid (W6.out.below hb7')
      have V7 := Lib.hid (V6.out.below hb7')
      have S7 := Lib.hid (S6.out.below hb7')
      clear hb7 hb7' a0
      have a1 := S7.out.bs.s1
      have a2 := S7.out.bs.s2
      have u0 := U7.out.v0
      have u1 := U7.out.v1
      have v0 := W7.out.v0
      have v1 := W7.out.v1
      go_wp2
      go_ret
      exact ⟨rfl, S7.out.law.bel⟩
    | some q =>
      go_wp2_with fail
      refine (look_row _ _ _ s.x _ _ Z6.out.at_ HZ.out HZL.out).mono ?_
      rintro e w7 ⟨rfl, hb7⟩
      simp only [lookK, lookN, Option.some_or, Option.map_some, Option.getD_some, Option.isSome_some]
      have hb7' := hb7.trans ((below_new w7 (.cells #[.int .i64 q.k, .int .i64 q.n] 34)).mono hb7.size)
      have U7 := Lib.hid (Blk.new w7 #[.int .i64 q.k, .int .i64 q.n] 34)
      have W7 := Lib.hid (W6.out.below hb7')
      have V7 := Lib.hid (V6.out.below hb7')
      have S7 := Lib.hid (S6.out.below hb7')
      clear hb7 hb7' a0
      have a1 := S7.out.bs.s1
      have a2 := S7.out.bs.s2
      have u0 := U7.out.v0
      have u1 := U7.out.v1
      have v0 := W7.out.v0
      have v1 := W7.out.v1
      have q0 : _ = some (Value.int .i64 q.k) := V7.out.v0
      have q1 : _ = some (Value.int .i64 q.n) := V7.out.v1
      go_wp2
      go_ret
      exact ⟨rfl, S7.out.law.bel⟩
  · have he' : (addE L ⟨s.x, s.k, s.n, true⟩ != 0) = true := by simpa using he
    have hY : addL L ⟨s.x, s.k, s.n, true⟩ = L := by unfold addL; rw [if_neg he]
    have hZ : addL L ⟨s.x, s.k, s.n, false⟩ = L := by unfold addL; rw [addE_rw, if_neg he]
    have Y5' := Y5.out
    have Z5' := Z5.out
    rw [hY] at Y5' ⊢
    rw [hZ] at Z5' ⊢
    have Y6 := Lib.hid Y5'
    have Z6 := Lib.hid Z5'
    clear Y5' Z5' Y5 Z5 he hY hZ
    go_wp2_with fail
    refine (ours_sl _ _ _ _ Y6.out.at_ HL.out).mono ?_
    rintro e w6 ⟨T6, d6, rfl, h6, hb6⟩
    have H6 := Lib.hid h6
    have Z7 := Lib.hid (Z6.out.below hb6)
    have S6 := Lib.hid (S5.out.below hb6)
    clear h6 hb6
    go_wp2_with fail
    refine (same_yes _ _ _ _ _ _ H6.out.at_ S6.out.law.arg HL.out).mono ?_
    rintro e w7 ⟨rfl, hb7⟩
    have Z8 := Lib.hid (Z7.out.below hb7)
    have S7 := Lib.hid (S6.out.below hb7)
    clear hb7
    go_wp2_with fail
    refine (ours_sl _ _ _ _ Z8.out.at_ HL.out).mono ?_
    rintro e w8 ⟨T8, d8, rfl, h8, hb8⟩
    have H8 := Lib.hid h8
    have S8 := Lib.hid (S7.out.below hb8)
    clear h8 hb8
    go_wp2_with fail
    refine (same_yes _ _ _ _ _ _ H8.out.at_ S8.out.law.arg HL.out).mono ?_
    rintro e w9 ⟨rfl, hb9⟩
    have S9 := Lib.hid (S8.out.below hb9)
    clear hb9
    go_wp2
    go_ret
    exact ⟨rfl, S9.out.law.bel⟩
end Go.Proofs.Ytgnajfijecmecaa.Tx
