/-
  The contract of topo.spread, for both literals that Insert hands to it.
-/
import Derived.Test.YtakoceablbgchaaDoorTopoFore
namespace Go.Proofs.YtakoceablbgchaaDoor
open Go.RowKit
def TSpreadJ (nx : Nat → Nat) (x R : Nat) (a0 : Value) (fv : Value) (w : World) (a' : Act) (w' : World) : Prop :=
  ∃ (d o : Nat) (u7 u8 u9 u10 u11 u12 u13 u14 u15 u16 u17 u18 u19 u20 u21 u22 u23 u24 u25 : Value),
    a' = { tmps := #[a0, fv, undef, undef, .int .u64 0, .int .u64 d, .int .u64 o, u7, u8, u9, u10, u11, u12, u13, u14, u15, u16, u17, u18, u19, u20, u21, u22, u23, u24, u25], defers := [] } ∧
    Mm.Inv nx x R d o ∧ Below w.heap.size w w'
theorem one_ints (w : World) (a : Nat) (ha : a < 32) : IntsAt (w.alloc (.cells #[.int .i64 (a : Nat)] 3)) (some ⟨w.heap.size, 0, none⟩) 1 [(a : Int)] := by
  refine ⟨rfl, fun _ => ⟨_, rfl, fun j z hz => ?_⟩, fun z hz => ?_⟩
  · match j, hz with
    | 0, hz =>
      simp at hz
      subst hz
      simp [Addr.add]
  · simp at hz
    subst hz
    exact ⟨by omega, by omega⟩
theorem one_set (a : Nat) : Sm.ofL 0 [(a : Int)] = Sm.add 0 (a : Int) := rfl
theorem one_lt {a : Nat} (ha : a < 32) : Sm.add 0 (a : Int) < 4294967296 := Mm.lt32 fun j hj => by rw [(Od.one_test ha j).1 hj]; exact ha
theorem fore_nx (m : Mm.Gr) (x c : Nat) : x &&& Mm.outs m c < 4294967296 := Nat.lt_of_le_of_lt Nat.and_le_right (Mm.outs_lt m c)
set_option maxHeartbeats 1000000 in
set_option maxRecDepth 100000 in
theorem tspread_fore (m : Mm.Gr) (x gb g a R : Nat) (w : World) (hm : Mm.Ok m) (hx : x < 4294967296) (ha : a < 32) (hl : LSt x gb m g w) (hT : TabAt w) (hR : Mm.Least (fun c => x &&& Mm.outs m c) (Sm.add 0 (a : Int)) R) :
    Calls Tryd.prog 66 #[.int .i64 (a : Nat), .func (.func 67) #[] #[.pointer (some ⟨gb, 0, none⟩), .pointer (some ⟨g, 0, none⟩)]] w fun e w' => e = .returned (.int .u64 R) ∧ Below w.heap.size w w' := by
  have HG := Lib.hid hl
  have HT := Lib.hid hT
  have HR := Lib.hid hR
  have HI1 := Lib.hid (one_ints w a ha)
  have HS1 := Lib.hid (one_set a)
  clear hl hT hR
  go_enter Tryd.func66, Tryd.ntmps66
  go_wp2
  refine wp_scope_jumps3 0 (TSpreadJ (fun c => x &&& Mm.outs m c) (Sm.add 0 (a : Int)) R (.int .i64 (a : Nat)) (.func (.func 67) #[] #[.pointer (some ⟨gb, 0, none⟩), .pointer (some ⟨g, 0, none⟩)]) w) (fun a' _ => 4294967296 - (intOf (a'.tmps.getD 5 undef)).toNat) rfl ?_ ?_
  · intro hp
    have HP := Lib.hid hp
    clear hp
    go_wp2_with (go_at_call 78; refine (of_any _ 1 1 _ _ (by decide) HI1.out).mono ?_; rintro e w1 ⟨rfl, rfl⟩)
    go_step3
    rename_i hK
    apply hK
    rw [HS1.out]
    exact HP.out _ _ ⟨0, _, _, _, _, _, _, _, _, _, _, _, _, _, _, _, _, _, _, _, _, rfl, Mm.inv_first HR.out (one_lt ha), below_new _ _⟩
  · rintro a' wr ⟨d, o, u7, u8, u9, u10, u11, u12, u13, u14, u15, u16, u17, u18, u19, u20, u21, u22, u23, u24, u25, rfl, hi, hbel⟩
    have HI := Lib.hid hi
    have hdl := hi.dlt
    have hol := hi.olt
    have HTr := Lib.hid (HT.out.below hbel HT.out.lt)
    have HGr := Lib.hid (HG.out.below hbel)
    clear hi
    by_cases h0 : o = 0
    · subst h0
      have HE := Lib.hid (Mm.inv_last HR.out HI.out)
      go_wp2
      simp only [Exit.jump]
      go_ret
      rw [HE.out]
      exact ⟨rfl, hbel⟩
    · have ho64 : o < 18446744073709551616 := by omega
      have hd64 : d < 18446744073709551616 := by omega
      have hy0 : ((o : Int) == 0) = false := by simpa using h0
      obtain ⟨hf1, hf2, hf3⟩ := Sm.first_spec h0 ho64
      have hf32 := Mm.test32 hol hf2
      obtain ⟨hin, hlt⟩ := Mm.inv_next HR.out (fun c => fore_nx m x c) HI.out hf2
      have HN := Lib.hid hin
      have HL := Lib.hid hlt
      have HK := Lib.hid (open_key (fun c => x &&& Mm.outs m c) (b := Sm.first o) hol (fore_nx m x _) hdl rfl)
      have hadl := hin.dlt
      have HAD := Lib.hid hadl
      clear hf2 hf3 hin hlt
      go_wp2_with (first
        | (go_at_call 25; refine (first_any _ _ ho64 h0 HTr.out).mono ?_; rintro e w' ⟨rfl, rfl⟩)
        | (go_at_call 45; refine (with_val _ _ _ _ hd64 (by omega) rfl).mono ?_; rintro e w' ⟨rfl, rfl⟩)
        | (go_at_call 67; refine (foreL_in m x gb g _ _ hm hx hf32 HGr.out).mono ?_; rintro e w2 ⟨rfl, hb2⟩))
      go_step3
      rw [HK.out]
      refine ⟨rfl, ⟨_, _, _, _, _, _, _, _, _, _, _, _, _, _, _, _, _, _, _, _, _, rfl, HN.out, hbel.trans (hb2.mono hbel.size)⟩, ?_⟩
      show 4294967296 - (intOf (.int .u64 (Sm.add d (Sm.first o : Nat) : Nat))).toNat < 4294967296 - (intOf (.int .u64 (d : Nat))).toNat
      simp only [intOf, Int.toNat_natCast]
      have := HL.out
      have := HAD.out
      omega
theorem hind_nx (m : Mm.Gr) (x c : Nat) : x &&& Mm.ins m c < 4294967296 := Nat.lt_of_le_of_lt Nat.and_le_right (Mm.ins_lt m c)
set_option maxHeartbeats 1000000 in
set_option maxRecDepth 100000 in
theorem tspread_hind (m : Mm.Gr) (x gb g a R : Nat) (w : World) (hm : Mm.Ok m) (hx : x < 4294967296) (ha : a < 32) (hl : LSt x gb m g w) (hT : TabAt w) (hR : Mm.Least (fun c => x &&& Mm.ins m c) (Sm.add 0 (a : Int)) R) :
    Calls Tryd.prog 66 #[.int .i64 (a : Nat), .func (.func 68) #[] #[.pointer (some ⟨gb, 0, none⟩), .pointer (some ⟨g, 0, none⟩)]] w fun e w' => e = .returned (.int .u64 R) ∧ Below w.heap.size w w' := by
  have HG := Lib.hid hl
  have HT := Lib.hid hT
  have HR := Lib.hid hR
  have HI1 := Lib.hid (one_ints w a ha)
  have HS1 := Lib.hid (one_set a)
  clear hl hT hR
  go_enter Tryd.func66, Tryd.ntmps66
  go_wp2
  refine wp_scope_jumps3 0 (TSpreadJ (fun c => x &&& Mm.ins m c) (Sm.add 0 (a : Int)) R (.int .i64 (a : Nat)) (.func (.func 68) #[] #[.pointer (some ⟨gb, 0, none⟩), .pointer (some ⟨g, 0, none⟩)]) w) (fun a' _ => 4294967296 - (intOf (a'.tmps.getD 5 undef)).toNat) rfl ?_ ?_
  · intro hp
    have HP := Lib.hid hp
    clear hp
    go_wp2_with (go_at_call 78; refine (of_any _ 1 1 _ _ (by decide) HI1.out).mono ?_; rintro e w1 ⟨rfl, rfl⟩)
    go_step3
    rename_i hK
    apply hK
    rw [HS1.out]
    exact HP.out _ _ ⟨0, _, _, _, _, _, _, _, _, _, _, _, _, _, _, _, _, _, _, _, _, rfl, Mm.inv_first HR.out (one_lt ha), below_new _ _⟩
  · rintro a' wr ⟨d, o, u7, u8, u9, u10, u11, u12, u13, u14, u15, u16, u17, u18, u19, u20, u21, u22, u23, u24, u25, rfl, hi, hbel⟩
    have HI := Lib.hid hi
    have hdl := hi.dlt
    have hol := hi.olt
    have HTr := Lib.hid (HT.out.below hbel HT.out.lt)
    have HGr := Lib.hid (HG.out.below hbel)
    clear hi
    by_cases h0 : o = 0
    · subst h0
      have HE := Lib.hid (Mm.inv_last HR.out HI.out)
      go_wp2
      simp only [Exit.jump]
      go_ret
      rw [HE.out]
      exact ⟨rfl, hbel⟩
    · have ho64 : o < 18446744073709551616 := by omega
      have hd64 : d < 18446744073709551616 := by omega
      have hy0 : ((o : Int) == 0) = false := by simpa using h0
      obtain ⟨hf1, hf2, hf3⟩ := Sm.first_spec h0 ho64
      have hf32 := Mm.test32 hol hf2
      obtain ⟨hin, hlt⟩ := Mm.inv_next HR.out (fun c => hind_nx m x c) HI.out hf2
      have HN := Lib.hid hin
      have HL := Lib.hid hlt
      have HK := Lib.hid (open_key (fun c => x &&& Mm.ins m c) (b := Sm.first o) hol (hind_nx m x _) hdl rfl)
      have hadl := hin.dlt
      have HAD := Lib.hid hadl
      clear hf2 hf3 hin hlt
      go_wp2_with (first
        | (go_at_call 25; refine (first_any _ _ ho64 h0 HTr.out).mono ?_; rintro e w' ⟨rfl, rfl⟩)
        | (go_at_call 45; refine (with_val _ _ _ _ hd64 (by omega) rfl).mono ?_; rintro e w' ⟨rfl, rfl⟩)
        | (go_at_call 68; refine (hindL_in m x gb g _ _ hm hx hf32 HGr.out).mono ?_; rintro e w2 ⟨rfl, hb2⟩))
      go_step3
      rw [HK.out]
      refine ⟨rfl, ⟨_, _, _, _, _, _, _, _, _, _, _, _, _, _, _, _, _, _, _, _, _, rfl, HN.out, hbel.trans (hb2.mono hbel.size)⟩, ?_⟩
      show 4294967296 - (intOf (.int .u64 (Sm.add d (Sm.first o : Nat) : Nat))).toNat < 4294967296 - (intOf (.int .u64 (d : Nat))).toNat
      simp only [intOf, Int.toNat_natCast]
      have := HL.out
      have := HAD.out
      omega
end Go.Proofs.YtakoceablbgchaaDoor
