/-
  The walk of TxnOwn.
-/
import Derived.Test.YtgnajfijecmecaaTxnLaw
namespace Go.Proofs.Ytgnajfijecmecaa.Tx
open Go.RowKit
/-- the arguments in their boxes, beside the row that came in and the same as the program has it. -/
structure OwnSt (A T : Option Addr) (d : Nat) (L : List Sp) (a b : Sp) (w W : World) : Prop where
  law : LawSt A T d L w W
  ba : Blk W w.heap.size (stepA a) 26
  bb : Blk W (w.heap.size + 1) (stepA b) 26
theorem OwnSt.below {A T : Option Addr} {d : Nat} {L : List Sp} {a b : Sp} {w W W' : World} (h : OwnSt A T d L a b w W) (hb : Below W.heap.size W W') : OwnSt A T d L a b w W' :=
  ⟨h.law.below hb, h.ba.below hb, h.bb.below hb⟩
theorem addL_300 {L : List Sp} (h : L.length ≤ 250) (s : Sp) : (addL L s).length ≤ 300 := by have := addL_len L s; omega
theorem Blk.s0 {W : World} {b : Nat} {s : Sp} {t : TypeId} (h : Blk W b (stepA s) t) : W.cell? ⟨b, 0, none⟩ = some (.int .i64 s.x) := h.cell 0
theorem Blk.s1 {W : World} {b : Nat} {s : Sp} {t : TypeId} (h : Blk W b (stepA s) t) : W.cell? ⟨b, 1, none⟩ = some (.int .i64 s.k) := h.cell 1
theorem Blk.s2 {W : World} {b : Nat} {s : Sp} {t : TypeId} (h : Blk W b (stepA s) t) : W.cell? ⟨b, 2, none⟩ = some (.int .i64 s.n) := h.cell 2
theorem Blk.s3 {W : World} {b : Nat} {s : Sp} {t : TypeId} (h : Blk W b (stepA s) t) : W.cell? ⟨b, 3, none⟩ = some (.bool s.wr) := h.cell 3
set_option maxHeartbeats 4000000 in
set_option maxRecDepth 100000 in
theorem txnOwn_walk (A : Option Addr) (N c : Nat) (L : List Sp) (a b : Sp) (w : World) (hL : TxnArg w A N c L) (ha : a.ok) (hb : b.ok) :
    Calls Try.prog 3 #[.slice A N c, .agg #[.int .i64 a.x, .int .i64 a.k, .int .i64 a.n, .bool a.wr], .agg #[.int .i64 b.x, .int .i64 b.k, .int .i64 b.n, .bool b.wr]] w fun e w' => e = .returned (.bool true) ∧ Below w.heap.size w w' := by
  obtain ⟨rfl, hc, hm, hA⟩ := hL
  have HA := Lib.hid hA
  have HOA := Lib.hid ha
  have HOB := Lib.hid hb
  have hN : (L.length : Int) ≤ 9223372036854775807 := by unfold maxLen at hm; omega
  clear hA hm hc ha hb
  have B0 := Lib.hid ((below_new w (.cells (stepA a) 26)).alloc (by simp) (.cells (stepA b) 26))
  have XA := Lib.hid ((Blk.new w (stepA a) 26).alloc (.cells (stepA b) 26))
  have XB := Lib.hid (Blk.new' (W := w.alloc (.cells (stepA a) 26)) (b := w.heap.size + 1) (by simp) (stepA b) 26)
  simp only [stepA] at B0 XA XB
  go_enter Try.func3, Try.ntmps3
  go_wp2_with fail
  refine (alive_any _).mono ?_
  rintro e w1 ⟨rfl, hb1⟩
  have X1 := Lib.hid (show Blk w1 w.heap.size (stepA a) 26 ∧ Blk w1 (w.heap.size + 1) (stepA b) 26 from ⟨XA.out.below hb1, XB.out.below hb1⟩)
  have B1 := Lib.hid (B0.out.trans (hb1.mono B0.out.size))
  clear hb1
  by_cases hbig : 250 < L.length
  · have hbig' : (250 : Int) < (L.length : Int) := by omega
    go_wp2
    go_ret
    exact ⟨rfl, B1.out⟩
  have hbig' : ¬ (250 : Int) < (L.length : Int) := by omega
  have HL5 := Lib.hid (show L.length ≤ 250 by omega)
  have HL := Lib.hid (show L.length ≤ 300 by omega)
  go_wp2_with fail
  refine (theirs_sl _ _ _ _ (HA.out.below B1.out (Nat.le_refl _)) HL.out).mono ?_
  rintro e w2 ⟨T, d, rfl, ht, hb2⟩
  have S2 := Lib.hid (show OwnSt A T d L a b w w2 from ⟨⟨(HA.out.below B1.out (Nat.le_refl _)).below hb2 (Nat.le_refl _), ht, B1.out.trans (hb2.mono B1.out.size)⟩, X1.out.1.below hb2, X1.out.2.below hb2⟩)
  clear ht hb2
  have a0 := S2.out.ba.s0
  have a1 := S2.out.ba.s1
  have a2 := S2.out.ba.s2
  go_wp2_with fail
  refine (write_any _ _ L a.x a.k a.n _ S2.out.law.th.at_ HL.out HOA.out.1 HOA.out.2.1 HOA.out.2.2).mono ?_
  rintro e w3 ⟨T3, d3, rfl, h3, hb3⟩
  obtain ⟨Y, hY⟩ : ∃ Y, Y = addL L ⟨a.x, a.k, a.n, true⟩ := ⟨_, rfl⟩
  have HY := Lib.hid (show Y.length ≤ 300 from hY ▸ addL_300 HL5.out _)
  rw [← hY] at h3 ⊢
  have Y3 := Lib.hid h3
  have S3 := Lib.hid (S2.out.below hb3)
  have HYE := Lib.hid hY
  clear h3 hb3 hY a0 a1 a2
  go_wp2_with fail
  refine (ours_sl _ _ _ _ Y3.out.at_ HY.out).mono ?_
  rintro e w4 ⟨T4, d4, rfl, h4, hb4⟩
  have K4 := Lib.hid h4
  have Y4 := Lib.hid (Y3.out.below hb4)
  have S4 := Lib.hid (S3.out.below hb4)
  clear h4 hb4
  have b0 := S4.out.bb.s0
  have b1 := S4.out.bb.s1
  have b2 := S4.out.bb.s2
  go_wp2_with fail
  refine (write_any _ _ Y b.x b.k b.n _ Y4.out.at_ HY.out HOB.out.1 HOB.out.2.1 HOB.out.2.2).mono ?_
  rintro e w5 ⟨T5, d5, rfl, h5, hb5⟩
  have K5 := Lib.hid (K4.out.below hb5)
  have Y5 := Lib.hid (Y4.out.below hb5)
  have S5 := Lib.hid (S4.out.below hb5)
  clear h5 hb5 b0 b1 b2
  have b0 := S5.out.bb.s0
  have b1 := S5.out.bb.s1
  have b2 := S5.out.bb.s2
  go_wp2_with fail
  refine (write_any _ _ L b.x b.k b.n _ S5.out.law.th.at_ HL.out HOB.out.1 HOB.out.2.1 HOB.out.2.2).mono ?_
  rintro e w6 ⟨T6, d6, rfl, h6, hb6⟩
  have K6 := Lib.hid (K5.out.below hb6)
  have Y6 := Lib.hid (Y5.out.below hb6)
  have S6 := Lib.hid (S5.out.below hb6)
  clear h6 hb6 b0 b1 b2
  go_wp2_with fail
  refine (back_as _ _ 0 Y (backL Y 0) _ Y6.out HY.out (Nat.zero_le _) rfl).mono ?_
  rintro e w7 ⟨T7, d7, rfl, h7, hb7⟩
  have K7 := Lib.hid (K6.out.below hb7)
  have Y7 := Lib.hid (Y6.out.below hb7)
  have S7 := Lib.hid (S6.out.below hb7)
  clear h7 hb7
  go_wp2_with fail
  refine (ours_sl _ _ _ _ S7.out.law.th.at_ HL.out).mono ?_
  rintro e w8 ⟨T8, d8, rfl, h8, hb8⟩
  have H8 := Lib.hid h8
  have K8 := Lib.hid (K7.out.below hb8)
  have Y8 := Lib.hid (Y7.out.below hb8)
  have S8 := Lib.hid (S7.out.below hb8)
  clear h8 hb8
  go_wp2_with fail
  refine (same_yes _ _ _ _ _ _ H8.out.at_ S8.out.law.arg HL.out).mono ?_
  rintro e w9 ⟨rfl, hb9⟩
  have K9 := Lib.hid (K8.out.below hb9)
  have Y9 := Lib.hid (Y8.out.below hb9)
  have S9 := Lib.hid (S8.out.below hb9)
  clear hb9
  go_wp2_with fail
  refine (ours_sl _ _ _ _ Y9.out.at_ HY.out).mono ?_
  rintro e wa ⟨Ta, da, rfl, ha, hba⟩
  have Ha := Lib.hid ha
  have Ka := Lib.hid (K9.out.below hba)
  have Ya := Lib.hid (Y9.out.below hba)
  have Sa := Lib.hid (S9.out.below hba)
  clear ha hba
  go_wp2_with fail
  refine (same_yes _ _ _ _ _ _ Ha.out.at_ Ka.out.at_ HY.out).mono ?_
  rintro e wb ⟨rfl, hbb⟩
  have Yb := Lib.hid (Ya.out.below hbb)
  have Sb := Lib.hid (Sa.out.below hbb)
  clear hbb
  have BW := Lib.hid Sb.out.law.bel
  by_cases he : addE L ⟨a.x, a.k, a.n, true⟩ = 0
  · by_cases hf : addE L ⟨b.x, b.k, b.n, true⟩ = 0
    · have hYl : Y = L ++ [⟨a.x, a.k, a.n, true⟩] := by rw [HYE.out]; unfold addL; rw [if_pos he]
      have hZl : (addL L ⟨b.x, b.k, b.n, true⟩).length = L.length + 1 := by unfold addL; rw [if_pos hf]; simp
      have hYn : Y.length = L.length + 1 := by rw [hYl]; simp
      have hat : Y[L.length]? = some ⟨a.x, a.k, a.n, true⟩ := by rw [hYl]; simp
      obtain ⟨ad, v, rfl, hv, _, h4⟩ := Yb.out.at_.at_ (j := L.length) (by omega)
      obtain rfl : (⟨a.x, a.k, a.n, true⟩ : Sp) = v := Option.some.inj (hat.symm.trans hv)
      have y0 : _ = some (Value.int .i64 a.x) := h4.c0
      have y1 : _ = some (Value.int .i64 a.k) := h4.c1
      have y2 : _ = some (Value.int .i64 a.n) := h4.c2
      have y3 : _ = some (Value.bool true) := h4.c3
      have a0 := Sb.out.ba.s0
      have a1 := Sb.out.ba.s1
      have a2 := Sb.out.ba.s2
      rw [hZl, hYn]
      have he' : (addE L ⟨a.x, a.k, a.n, true⟩ != 0) = false := by simpa using he
      have hf' : (addE L ⟨b.x, b.k, b.n, true⟩ != 0) = false := by simpa using hf
      have hs : wrap64 (((L.length + 1 : Nat) : Int) - 1) = (L.length : Int) := by have := HL.out; unfold wrap64; omega
      have hs2 : wrap64 ((L.length : Int) + 1 - 1) = (L.length : Int) := by have := HL.out; unfold wrap64; omega
      have h0 : (0 : Int) ≤ (L.length : Int) := by omega
      have h1 : (L.length : Int) < ((L.length + 1 : Nat) : Int) := by omega
      clear he hf hYl hZl hYn hat hv h4
      go_wp2
      go_quiet (fail)
      go_wp2
      go_ret
      exact ⟨rfl, BW.out.trans (below_drewN _ _ _)⟩
    · have he' : (addE L ⟨a.x, a.k, a.n, true⟩ != 0) = false := by simpa using he
      have hf' : (addE L ⟨b.x, b.k, b.n, true⟩ != 0) = true := by simpa using hf
      clear he hf
      go_wp2
      go_quiet (fail)
      go_wp2
      go_ret
      exact ⟨rfl, BW.out.trans (below_drewN _ _ _)⟩
  · have he' : (addE L ⟨a.x, a.k, a.n, true⟩ != 0) = true := by simpa using he
    clear he
    go_wp2
    go_quiet (fail)
    go_wp2
    go_ret
    exact ⟨rfl, BW.out.trans (below_drewN _ _ _)⟩
end Go.Proofs.Ytgnajfijecmecaa.Tx
