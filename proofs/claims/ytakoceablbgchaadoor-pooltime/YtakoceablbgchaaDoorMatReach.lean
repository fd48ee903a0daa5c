/-
  Contracts of what mat.Reach and mat.Back hand to spread, of spread, Reach, Back and Free.
-/
import Derived.Test.YtakoceablbgchaaDoorMatOps
import Derived.Test.YtakoceablbgchaaDoorMatLeast
import Derived.Laws.ByValue
namespace Go.Proofs.YtakoceablbgchaaDoor
open Go.RowKit
set_option maxHeartbeats 1000000 in
theorem reachL_in (m : Mm.Gr) (g b : Nat) (w : World) (hm : Mm.Ok m) (hb : b < 32) (hg : MatAt w g m 27) :
    Calls Tryd.prog 70 #[.int .i64 (b : Nat), .pointer (some ⟨g, 0, none⟩)] w fun e w' => e = .returned (.int .u64 (Mm.outs m b : Nat)) ∧ Below w.heap.size w w' := by
  have H0 := Lib.hid hg
  clear hg
  go_enter Tryd.func70, Tryd.ntmps70
  go_wp2_with (first
    | (refine wpList_load_row rfl 27 (.tmp 1) rfl g rfl 27 (matA m) (0, 0) _ H0.out Tryd.underlying27 rfl (matInfo m) ?_)
    | (go_at_call 24; refine (outs_in m b _ hm hb).mono ?_; rintro e w1 ⟨rfl, hb1⟩))
  go_ret
  exact ⟨rfl, hb1⟩
set_option maxHeartbeats 1000000 in
theorem reachL_far (m : Mm.Gr) (g : Nat) (b : Int) (w : World) (hb : Far b) (hg : MatAt w g m 27) :
    Calls Tryd.prog 70 #[.int .i64 b, .pointer (some ⟨g, 0, none⟩)] w fun e w' => e = .returned (.int .u64 0) ∧ Below w.heap.size w w' := by
  have H0 := Lib.hid hg
  clear hg
  go_enter Tryd.func70, Tryd.ntmps70
  go_wp2_with (first
    | (refine wpList_load_row rfl 27 (.tmp 1) rfl g rfl 27 (matA m) (0, 0) _ H0.out Tryd.underlying27 rfl (matInfo m) ?_)
    | (go_at_call 24; refine (outs_far m b _ hb).mono ?_; rintro e w1 ⟨rfl, hb1⟩))
  go_ret
  exact ⟨rfl, hb1⟩
set_option maxHeartbeats 1000000 in
theorem backL_in (m : Mm.Gr) (g b : Nat) (w : World) (hm : Mm.Ok m) (hb : b < 32) (hg : MatAt w g m 27) :
    Calls Tryd.prog 47 #[.int .i64 (b : Nat), .pointer (some ⟨g, 0, none⟩)] w fun e w' => e = .returned (.int .u64 (Mm.ins m b : Nat)) ∧ Below w.heap.size w w' := by
  have H0 := Lib.hid hg
  clear hg
  go_enter Tryd.func47, Tryd.ntmps47
  go_wp2_with (first
    | (refine wpList_load_row rfl 27 (.tmp 1) rfl g rfl 27 (matA m) (0, 0) _ H0.out Tryd.underlying27 rfl (matInfo m) ?_)
    | (go_at_call 17; refine (ins_in m b _ hm hb).mono ?_; rintro e w1 ⟨rfl, hb1⟩))
  go_ret
  exact ⟨rfl, hb1⟩
set_option maxHeartbeats 1000000 in
theorem backL_far (m : Mm.Gr) (g : Nat) (b : Int) (w : World) (hb : Far b) (hg : MatAt w g m 27) :
    Calls Tryd.prog 47 #[.int .i64 b, .pointer (some ⟨g, 0, none⟩)] w fun e w' => e = .returned (.int .u64 0) ∧ Below w.heap.size w w' := by
  have H0 := Lib.hid hg
  clear hg
  go_enter Tryd.func47, Tryd.ntmps47
  go_wp2_with (first
    | (refine wpList_load_row rfl 27 (.tmp 1) rfl g rfl 27 (matA m) (0, 0) _ H0.out Tryd.underlying27 rfl (matInfo m) ?_)
    | (go_at_call 17; refine (ins_far m b _ hb).mono ?_; rintro e w1 ⟨rfl, hb1⟩))
  go_ret
  exact ⟨rfl, hb1⟩
def SpreadJ (nx : Nat → Nat) (x R : Nat) (a0 : Value) (fv : Value) (w : World) (a' : Act) (w' : World) : Prop :=
  ∃ (d o : Nat) (u7 u8 u9 u10 u11 u12 u13 u14 u15 u16 u17 u18 u19 u20 u21 u22 u23 u24 u25 : Value),
    a' = { tmps := #[a0, fv, undef, undef, .int .u64 0, .int .u64 d, .int .u64 o, u7, u8, u9, u10, u11, u12, u13, u14, u15, u16, u17, u18, u19, u20, u21, u22, u23, u24, u25], defers := [] } ∧
    Mm.Inv nx x R d o ∧ Below w.heap.size w w'
theorem open_key {d o y b : Nat} (nx : Nat → Nat) (ho : o < 4294967296) (hy : nx b < 4294967296) (hd : d < 4294967296) (h : nx b = y) :
    bits .andNot .u64 (bits .or .u64 (o : Int) ((y : Nat) : Int)) ((Sm.add d (b : Nat) : Nat) : Int) = ((Mm.openN nx d o b : Nat) : Int) := by
  subst h
  have hor := Mm.or_lt32 ho hy
  rw [bits_or_u64_nat o _ (by omega) (by omega), u64_andNot_nat _ _ (by omega) (Sm.add_lt _ (by omega))]
  rfl
set_option maxHeartbeats 1000000 in
set_option maxRecDepth 100000 in
theorem spreadO_in (m : Mm.Gr) (g a R : Nat) (w : World) (hm : Mm.Ok m) (ha : a < 32) (hg : MatAt w g m 27) (hT : TabAt w) (hR : Mm.Least (Mm.outs m) (Mm.outs m a) R) :
    Calls Tryd.prog 46 #[.int .i64 (a : Nat), .func (.func 70) #[] #[.pointer (some ⟨g, 0, none⟩)]] w fun e w' => e = .returned (.int .u64 R) ∧ Below w.heap.size w w' := by
  have HG := Lib.hid hg
  have HT := Lib.hid hT
  have HR := Lib.hid hR
  clear hg hT hR
  go_enter Tryd.func46, Tryd.ntmps46
  go_wp2
  refine wp_scope_jumps3 0 (SpreadJ (Mm.outs m) (Mm.outs m a) R (.int .i64 (a : Nat)) (.func (.func 70) #[] #[.pointer (some ⟨g, 0, none⟩)]) w) (fun a' _ => 4294967296 - (intOf (a'.tmps.getD 5 undef)).toNat) rfl ?_ ?_
  · intro hp
    have HP := Lib.hid hp
    clear hp
    go_wp2_with (go_at_call 70; refine (reachL_in m g a _ hm ha HG.out).mono ?_; rintro e w1 ⟨rfl, hb1⟩)
    go_step3
    rename_i hK
    apply hK
    exact HP.out _ _ ⟨0, _, _, _, _, _, _, _, _, _, _, _, _, _, _, _, _, _, _, _, _, rfl, Mm.inv_first HR.out (Mm.outs_lt m a), hb1⟩
  · rintro a' wr ⟨d, o, u7, u8, u9, u10, u11, u12, u13, u14, u15, u16, u17, u18, u19, u20, u21, u22, u23, u24, u25, rfl, hi, hbel⟩
    have HI := Lib.hid hi
    have hdl := hi.dlt
    have hol := hi.olt
    have HTr := Lib.hid (HT.out.below hbel HT.out.lt)
    have HGr := Lib.hid (HG.out.below hbel)
    clear hi
    by_cases h0 : o = 0
    · subst h0
      have HE := Lib.hid (Mm.inv_last HR.out HI.out)
      go_wp2
      simp only [Exit.jump]
      go_ret
      rw [HE.out]
      exact ⟨rfl, hbel⟩
    · have ho64 : o < 18446744073709551616 := by omega
      have hd64 : d < 18446744073709551616 := by omega
      have hy0 : ((o : Int) == 0) = false := by simpa using h0
      obtain ⟨hf1, hf2, hf3⟩ := Sm.first_spec h0 ho64
      have hf32 := Mm.test32 hol hf2
      obtain ⟨hin, hlt⟩ := Mm.inv_next HR.out (Mm.outs_lt m) HI.out hf2
      have HN := Lib.hid hin
      have HL := Lib.hid hlt
      have HK := Lib.hid (open_key (Mm.outs m) (b := Sm.first o) hol (Mm.outs_lt m _) hdl rfl)
      have hadl := hin.dlt
      have HAD := Lib.hid hadl
      clear hf2 hf3 hin hlt
      go_wp2_with (first
        | (go_at_call 25; refine (first_any _ _ ho64 h0 HTr.out).mono ?_; rintro e w' ⟨rfl, rfl⟩)
        | (go_at_call 45; refine (with_val _ _ _ _ hd64 (by omega) rfl).mono ?_; rintro e w' ⟨rfl, rfl⟩)
        | (go_at_call 70; refine (reachL_in m g _ _ hm hf32 HGr.out).mono ?_; rintro e w2 ⟨rfl, hb2⟩))
      go_step3
      rw [HK.out]
      refine ⟨rfl, ⟨_, _, _, _, _, _, _, _, _, _, _, _, _, _, _, _, _, _, _, _, _, rfl, HN.out, hbel.trans (hb2.mono hbel.size)⟩, ?_⟩
      show 4294967296 - (intOf (.int .u64 (Sm.add d (Sm.first o : Nat) : Nat))).toNat < 4294967296 - (intOf (.int .u64 (d : Nat))).toNat
      simp only [intOf, Int.toNat_natCast]
      have := HL.out
      have := HAD.out
      omega
set_option maxHeartbeats 1000000 in
set_option maxRecDepth 100000 in
theorem spreadO_far (m : Mm.Gr) (g : Nat) (a : Int) (w : World) (ha : Far a) (hg : MatAt w g m 27) :
    Calls Tryd.prog 46 #[.int .i64 a, .func (.func 70) #[] #[.pointer (some ⟨g, 0, none⟩)]] w fun e w' => e = .returned (.int .u64 0) ∧ Below w.heap.size w w' := by
  have HG := Lib.hid hg
  clear hg
  go_enter Tryd.func46, Tryd.ntmps46
  go_wp2
  refine wp_scope_jumps3 0 (fun a' w' => (∃ (u7 u8 u9 u10 u11 u12 u13 u14 u15 u16 u17 u18 u19 u20 u21 u22 u23 u24 u25 : Value),
    a' = { tmps := #[.int .i64 a, .func (.func 70) #[] #[.pointer (some ⟨g, 0, none⟩)], undef, undef, .int .u64 0, .int .u64 0, .int .u64 0, u7, u8, u9, u10, u11, u12, u13, u14, u15, u16, u17, u18, u19, u20, u21, u22, u23, u24, u25], defers := [] }) ∧ Below w.heap.size w w') (fun _ _ => 0) rfl ?_ ?_
  · intro hp
    have HP := Lib.hid hp
    clear hp
    go_wp2_with (go_at_call 70; refine (reachL_far m g a _ ha HG.out).mono ?_; rintro e w1 ⟨rfl, hb1⟩)
    go_step3
    rename_i hK
    apply hK
    exact HP.out _ _ ⟨⟨_, _, _, _, _, _, _, _, _, _, _, _, _, _, _, _, _, _, _, rfl⟩, hb1⟩
  · rintro a' wr ⟨⟨u7, u8, u9, u10, u11, u12, u13, u14, u15, u16, u17, u18, u19, u20, u21, u22, u23, u24, u25, rfl⟩, hbel⟩
    go_wp2
    simp only [Exit.jump]
    go_ret
    exact ⟨rfl, hbel⟩
set_option maxHeartbeats 1000000 in
set_option maxRecDepth 100000 in
theorem spreadI_in (m : Mm.Gr) (g a R : Nat) (w : World) (hm : Mm.Ok m) (ha : a < 32) (hg : MatAt w g m 27) (hT : TabAt w) (hR : Mm.Least (Mm.ins m) (Mm.ins m a) R) :
    Calls Tryd.prog 46 #[.int .i64 (a : Nat), .func (.func 47) #[] #[.pointer (some ⟨g, 0, none⟩)]] w fun e w' => e = .returned (.int .u64 R) ∧ Below w.heap.size w w' := by
  have HG := Lib.hid hg
  have HT := Lib.hid hT
  have HR := Lib.hid hR
  clear hg hT hR
  go_enter Tryd.func46, Tryd.ntmps46
  go_wp2
  refine wp_scope_jumps3 0 (SpreadJ (Mm.ins m) (Mm.ins m a) R (.int .i64 (a : Nat)) (.func (.func 47) #[] #[.pointer (some ⟨g, 0, none⟩)]) w) (fun a' _ => 4294967296 - (intOf (a'.tmps.getD 5 undef)).toNat) rfl ?_ ?_
  · intro hp
    have HP := Lib.hid hp
    clear hp
    go_wp2_with (go_at_call 47; refine (backL_in m g a _ hm ha HG.out).mono ?_; rintro e w1 ⟨rfl, hb1⟩)
    go_step3
    rename_i hK
    apply hK
    exact HP.out _ _ ⟨0, _, _, _, _, _, _, _, _, _, _, _, _, _, _, _, _, _, _, _, _, rfl, Mm.inv_first HR.out (Mm.ins_lt m a), hb1⟩
  · rintro a' wr ⟨d, o, u7, u8, u9, u10, u11, u12, u13, u14, u15, u16, u17, u18, u19, u20, u21, u22, u23, u24, u25, rfl, hi, hbel⟩
    have HI := Lib.hid hi
    have hdl := hi.dlt
    have hol := hi.olt
    have HTr := Lib.hid (HT.out.below hbel HT.out.lt)
    have HGr := Lib.hid (HG.out.below hbel)
    clear hi
    by_cases h0 : o = 0
    · subst h0
      have HE := Lib.hid (Mm.inv_last HR.out HI.out)
      go_wp2
      simp only [Exit.jump]
      go_ret
      rw [HE.out]
      exact ⟨rfl, hbel⟩
    · have ho64 : o < 18446744073709551616 := by omega
      have hd64 : d < 18446744073709551616 := by omega
      have hy0 : ((o : Int) == 0) = false := by simpa using h0
      obtain ⟨hf1, hf2, hf3⟩ := Sm.first_spec h0 ho64
      have hf32 := Mm.test32 hol hf2
      obtain ⟨hin, hlt⟩ := Mm.inv_next HR.out (Mm.ins_lt m) HI.out hf2
      have HN := Lib.hid hin
      have HL := Lib.hid hlt
      have HK := Lib.hid (open_key (Mm.ins m) (b := Sm.first o) hol (Mm.ins_lt m _) hdl rfl)
      have hadl := hin.dlt
      have HAD := Lib.hid hadl
      clear hf2 hf3 hin hlt
      go_wp2_with (first
        | (go_at_call 25; refine (first_any _ _ ho64 h0 HTr.out).mono ?_; rintro e w' ⟨rfl, rfl⟩)
        | (go_at_call 45; refine (with_val _ _ _ _ hd64 (by omega) rfl).mono ?_; rintro e w' ⟨rfl, rfl⟩)
        | (go_at_call 47; refine (backL_in m g _ _ hm hf32 HGr.out).mono ?_; rintro e w2 ⟨rfl, hb2⟩))
      go_step3
      rw [HK.out]
      refine ⟨rfl, ⟨_, _, _, _, _, _, _, _, _, _, _, _, _, _, _, _, _, _, _, _, _, rfl, HN.out, hbel.trans (hb2.mono hbel.size)⟩, ?_⟩
      show 4294967296 - (intOf (.int .u64 (Sm.add d (Sm.first o : Nat) : Nat))).toNat < 4294967296 - (intOf (.int .u64 (d : Nat))).toNat
      simp only [intOf, Int.toNat_natCast]
      have := HL.out
      have := HAD.out
      omega
set_option maxHeartbeats 1000000 in
set_option maxRecDepth 100000 in
theorem spreadI_far (m : Mm.Gr) (g : Nat) (a : Int) (w : World) (ha : Far a) (hg : MatAt w g m 27) :
    Calls Tryd.prog 46 #[.int .i64 a, .func (.func 47) #[] #[.pointer (some ⟨g, 0, none⟩)]] w fun e w' => e = .returned (.int .u64 0) ∧ Below w.heap.size w w' := by
  have HG := Lib.hid hg
  clear hg
  go_enter Tryd.func46, Tryd.ntmps46
  go_wp2
  refine wp_scope_jumps3 0 (fun a' w' => (∃ (u7 u8 u9 u10 u11 u12 u13 u14 u15 u16 u17 u18 u19 u20 u21 u22 u23 u24 u25 : Value),
    a' = { tmps := #[.int .i64 a, .func (.func 47) #[] #[.pointer (some ⟨g, 0, none⟩)], undef, undef, .int .u64 0, .int .u64 0, .int .u64 0, u7, u8, u9, u10, u11, u12, u13, u14, u15, u16, u17, u18, u19, u20, u21, u22, u23, u24, u25], defers := [] }) ∧ Below w.heap.size w w') (fun _ _ => 0) rfl ?_ ?_
  · intro hp
    have HP := Lib.hid hp
    clear hp
    go_wp2_with (go_at_call 47; refine (backL_far m g a _ ha HG.out).mono ?_; rintro e w1 ⟨rfl, hb1⟩)
    go_step3
    rename_i hK
    apply hK
    exact HP.out _ _ ⟨⟨_, _, _, _, _, _, _, _, _, _, _, _, _, _, _, _, _, _, _, rfl⟩, hb1⟩
  · rintro a' wr ⟨⟨u7, u8, u9, u10, u11, u12, u13, u14, u15, u16, u17, u18, u19, u20, u21, u22, u23, u24, u25, rfl⟩, hbel⟩
    go_wp2
    simp only [Exit.jump]
    go_ret
    exact ⟨rfl, hbel⟩
set_option maxHeartbeats 1000000 in
theorem reach_in (m : Mm.Gr) (a : Nat) (w : World) (hm : Mm.Ok m) (ha : a < 32) (hT : TabAt w) :
    Calls Tryd.prog 54 #[.agg (matA m), .int .i64 (a : Nat)] w fun e w' => e = .returned (.int .u64 (Mm.ways (Mm.E m) a : Nat)) ∧ Below w.heap.size w w' := by
  have HT := Lib.hid (hT.below ((Below.refl _ w).alloc (Nat.le_refl _) (.cells (matA m) 27)) hT.lt)
  have HR := Lib.hid (Mm.least_outs m a)
  clear hT
  go_enter Tryd.func54, Tryd.ntmps54
  go_wp2_with (go_at_call 46; refine (spreadO_in m _ a _ _ hm ha (matAt_new _ _ _) HT.out HR.out).mono ?_; rintro e w1 ⟨rfl, hb1⟩)
  go_ret
  exact ⟨rfl, ((Below.refl _ _).alloc (Nat.le_refl _) _).trans (hb1.mono (by simp))⟩
set_option maxHeartbeats 1000000 in
theorem reach_far (m : Mm.Gr) (a : Int) (w : World) (ha : Far a) :
    Calls Tryd.prog 54 #[.agg (matA m), .int .i64 a] w fun e w' => e = .returned (.int .u64 0) ∧ Below w.heap.size w w' := by
  go_enter Tryd.func54, Tryd.ntmps54
  go_wp2_with (go_at_call 46; refine (spreadO_far m _ a _ ha (matAt_new _ _ _)).mono ?_; rintro e w1 ⟨rfl, hb1⟩)
  go_ret
  exact ⟨rfl, ((Below.refl _ _).alloc (Nat.le_refl _) _).trans (hb1.mono (by simp))⟩
set_option maxHeartbeats 1000000 in
theorem back_in (m : Mm.Gr) (a : Nat) (w : World) (hm : Mm.Ok m) (ha : a < 32) (hT : TabAt w) :
    Calls Tryd.prog 18 #[.agg (matA m), .int .i64 (a : Nat)] w fun e w' => e = .returned (.int .u64 (Mm.ways (fun i j => Mm.E m j i) a : Nat)) ∧ Below w.heap.size w w' := by
  have HT := Lib.hid (hT.below ((Below.refl _ w).alloc (Nat.le_refl _) (.cells (matA m) 27)) hT.lt)
  have HR := Lib.hid (Mm.least_ins m a)
  clear hT
  go_enter Tryd.func18, Tryd.ntmps18
  go_wp2_with (go_at_call 46; refine (spreadI_in m _ a _ _ hm ha (matAt_new _ _ _) HT.out HR.out).mono ?_; rintro e w1 ⟨rfl, hb1⟩)
  go_ret
  exact ⟨rfl, ((Below.refl _ _).alloc (Nat.le_refl _) _).trans (hb1.mono (by simp))⟩
set_option maxHeartbeats 1000000 in
theorem back_far (m : Mm.Gr) (a : Int) (w : World) (ha : Far a) :
    Calls Tryd.prog 18 #[.agg (matA m), .int .i64 a] w fun e w' => e = .returned (.int .u64 0) ∧ Below w.heap.size w w' := by
  go_enter Tryd.func18, Tryd.ntmps18
  go_wp2_with (go_at_call 46; refine (spreadI_far m _ a _ ha (matAt_new _ _ _)).mono ?_; rintro e w1 ⟨rfl, hb1⟩)
  go_ret
  exact ⟨rfl, ((Below.refl _ _).alloc (Nat.le_refl _) _).trans (hb1.mono (by simp))⟩
theorem tabAt_new {w : World} (h : TabAt w) (o : Obj) : TabAt (w.alloc o) := h.below ((Below.refl _ w).alloc (Nat.le_refl _) o) h.lt
def FreeRel (m : Mm.Gr) (w : World) (i : Value) (wr : World) : Prop :=
  ∃ k : Nat, k ≤ 32 ∧ i = .int .i64 k ∧ (∀ j, j < k → ¬ Mm.W (Mm.E m) j j) ∧ MatAt wr w.heap.size m 27 ∧ Below w.heap.size w wr
theorem free_yes {m : Mm.Gr} (h : ∀ j, j < 32 → ¬ Mm.W (Mm.E m) j j) : Mm.free m = true := (Mm.free_iff m).2 fun i hw => h i hw.nodes.1 hw
theorem free_no {m : Mm.Gr} {k : Nat} (h : (Mm.ways (Mm.E m) k).testBit k = true) : Mm.free m = false := (Mm.free_not m).2 ⟨k, ((Mm.ways_test _ _ _).1 h).2⟩
set_option maxHeartbeats 1000000 in
set_option maxRecDepth 100000 in
theorem free_any (m : Mm.Gr) (w : World) (hm : Mm.Ok m) (hT : TabAt w) :
    Calls Tryd.prog 28 #[.agg (matA m)] w fun e w' => e = .returned (.bool (Mm.free m)) ∧ Below w.heap.size w w' := by
  have HT := Lib.hid hT
  clear hT
  go_enter Tryd.func28, Tryd.ntmps28
  go_wp2
  go_loopw [4] (FreeRel m w) (fun i _ => 32 - (intOf i).toNat)
  case atStart => exact ⟨0, by omega, rfl, fun j hj => absurd hj (by omega), matAt_new _ _ _, (Below.refl _ _).alloc (Nat.le_refl _) _⟩
  case round =>
    obtain ⟨k, hk, rfl, hw, h0, hb⟩ := hrel
    have H0 := Lib.hid h0
    have HW := Lib.hid hw
    have HTr := Lib.hid (HT.out.below hb HT.out.lt)
    clear h0 hw
    by_cases hlt : k < 32
    · have hwl := Mm.ways_lt (Mm.E m) k
      cases ht : (Mm.ways (Mm.E m) k).testBit k
      · have HB := Lib.hid ht
        have HNW := Lib.hid (show ¬ Mm.W (Mm.E m) k k from fun h => by rw [(Mm.ways_test _ _ _).2 ⟨hlt, h⟩] at ht; cases ht)
        clear ht
        go_wp2_with (first
          | (refine wpList_load_row rfl 27 (.tmp 1) rfl w.heap.size rfl 27 (matA m) (0, 0) _ H0.out Tryd.underlying27 rfl (matInfo m) ?_)
          | (go_at_call 54; refine (reach_in m k _ hm hlt HTr.out).mono ?_; rintro e w1 ⟨rfl, hb1⟩)
          | (go_at_call 23; refine (has_val _ _ _ _ hwl (by omega) HB.out).mono ?_; rintro e w' ⟨rfl, rfl⟩))
        refine ⟨⟨k + 1, by omega, by go_num, fun j hj => ?_, H0.out.below hb1, hb.trans (hb1.mono hb.size)⟩, by simp [intOf]; omega⟩
        by_cases hjk : j = k
        · subst hjk; exact HNW.out
        · exact HW.out j (by omega)
      · have HB := Lib.hid ht
        have HF := Lib.hid (free_no ht)
        clear ht
        go_wp2_with (first
          | (refine wpList_load_row rfl 27 (.tmp 1) rfl w.heap.size rfl 27 (matA m) (0, 0) _ H0.out Tryd.underlying27 rfl (matInfo m) ?_)
          | (go_at_call 54; refine (reach_in m k _ hm hlt HTr.out).mono ?_; rintro e w1 ⟨rfl, hb1⟩)
          | (go_at_call 23; refine (has_val _ _ _ _ hwl (by omega) HB.out).mono ?_; rintro e w' ⟨rfl, rfl⟩))
        go_ret
        rw [HF.out]
        exact ⟨rfl, hb.trans (hb1.mono hb.size)⟩
    · obtain rfl : k = 32 := by omega
      have HF := Lib.hid (free_yes HW.out)
      go_wp2
      go_ret
      rw [HF.out]
      exact ⟨rfl, hb⟩
end Go.Proofs.YtakoceablbgchaaDoor
