/-
  Contracts of the functions of package set, and of the two of math/bits that it calls: each returns what the plain mathematics says, and leaves the world as it was.
  The contract of set.Of: of any row of whole numbers it is the set of those that may be in one.
  The contract of set.Items: a new row of all numbers of the set, rising; nothing that was there is changed.
  Contracts of the document's own answers for sets: each returns what the plain mathematics says.
  Contracts of the document's own answers for sets, those that make rows: Bits, Items, First, Same.
-/
import Derived.Test.YtfdfiiocccafkaaGreatDoorProg
import Derived.Test.YtfdfiiocccafkaaGreatDoorJMath
import Derived.WalkKit
import Derived.Laws.Bits64b
import Derived.Laws.BitsAllLaws
import Derived.Shelf.Spec.TrailingZeros
import Derived.Lib.Hide
import Derived.Below
import Derived.Laws.OwnMore
import Derived.LoopTactic
import Derived.WalkMore
import Derived.ScopeJumps
import Derived.OwnWalk
import Derived.Maps.AppendAt
import Derived.Laws.MakeOwn
import Derived.Laws.Rows
import Derived.Deep.QuietTactic
import Derived.BigQuiet
namespace Go.Proofs.YtfdfiiocccafkaaGreatDoor
open Go.RowKit

theorem ret_int {k : IntKind} {a b : Int} (h : a = b) : Ending.returned (.int k a) = .returned (.int k b) := by rw [h]
theorem ret_bool {a b : Bool} (h : a = b) : Ending.returned (.bool a) = .returned (.bool b) := by rw [h]
theorem ret_val {a b : Value} (h : a = b) : Ending.returned a = .returned b := by rw [h]

theorem bit_wrap (i : Int) (hn : 0 ≤ i) (hg : i ≤ 63) : IntKind.u64.wrap (2 ^ i.toNat) = (Sm.bit i : Nat) := by
  have h := Sm.bit_lt i
  rw [Sm.bit_in hn hg] at h ⊢
  rw [IntKind.wrap_u64]
  have e : ((2 : Int) ^ i.toNat) = ((2 ^ i.toNat : Nat) : Int) := by simp
  rw [e]; generalize 2 ^ i.toNat = y at *; omega

set_option maxHeartbeats 400000 in
theorem bit_any (i : Int) (w : World) (h0 : -9223372036854775808 ≤ i) (h1 : i ≤ 9223372036854775807) :
    Calls Tryz.prog 122 #[.int .i64 i] w fun e w' => e = .returned (.int .u64 (Sm.bit i : Nat)) ∧ w = w' := by
  by_cases hn : i < 0
  · have H := Lib.hid (Sm.bit_out (i := i) (.inl hn))
    go_enter Tryz.func122, Tryz.ntmps122
    go_wp2
    go_ret
    rw [H.out]; exact ⟨rfl, rfl⟩
  · by_cases hg : 63 < i
    · have H := Lib.hid (Sm.bit_out (i := i) (.inr hg))
      go_enter Tryz.func122, Tryz.ntmps122
      go_wp2
      go_ret
      rw [H.out]; exact ⟨rfl, rfl⟩
    · have H := Lib.hid (bit_wrap i (by omega) (by omega))
      have hn' : 0 ≤ i := by omega
      go_enter Tryz.func122, Tryz.ntmps122
      go_wp2
      go_ret
      exact ⟨ret_int H.out, rfl⟩

theorem has_key (x : Nat) (i : Int) (h : x < 18446744073709551616) : (bits .and .u64 (x : Int) (Sm.bit i : Nat) != 0) = Sm.has x i := by
  rw [bits_and_u64_nat x _ h (Sm.bit_lt i), Sm.has_and, Bool.eq_iff_iff]
  simp
theorem add_key (x : Nat) (i : Int) (h : x < 18446744073709551616) : bits .or .u64 (x : Int) (Sm.bit i : Nat) = (Sm.add x i : Nat) := by
  rw [bits_or_u64_nat x _ h (Sm.bit_lt i)]; rfl
theorem less_key (x : Nat) (i : Int) (h : x < 18446744073709551616) : bits .andNot .u64 (x : Int) (Sm.bit i : Nat) = (Sm.less x i : Nat) := by
  rw [u64_andNot_nat x _ h (Sm.bit_lt i)]; rfl

set_option maxHeartbeats 400000 in
theorem has_any (x : Nat) (i : Int) (w : World) (hx : x < 18446744073709551616) (h0 : -9223372036854775808 ≤ i) (h1 : i ≤ 9223372036854775807) :
    Calls Tryz.prog 133 #[.int .u64 x, .int .i64 i] w fun e w' => e = .returned (.bool (Sm.has x i)) ∧ w = w' := by
  have H := Lib.hid (has_key x i hx)
  go_enter Tryz.func133, Tryz.ntmps133
  go_wp2_with (go_at_call 122; refine (bit_any _ _ h0 h1).mono ?_; rintro e w' ⟨rfl, rfl⟩)
  go_ret
  exact ⟨ret_bool H.out, rfl⟩
set_option maxHeartbeats 400000 in
theorem with_any (x : Nat) (i : Int) (w : World) (hx : x < 18446744073709551616) (h0 : -9223372036854775808 ≤ i) (h1 : i ≤ 9223372036854775807) :
    Calls Tryz.prog 111 #[.int .u64 x, .int .i64 i] w fun e w' => e = .returned (.int .u64 (Sm.add x i : Nat)) ∧ w = w' := by
  have H := Lib.hid (add_key x i hx)
  go_enter Tryz.func111, Tryz.ntmps111
  go_wp2_with (go_at_call 122; refine (bit_any _ _ h0 h1).mono ?_; rintro e w' ⟨rfl, rfl⟩)
  go_ret
  exact ⟨ret_int H.out, rfl⟩
set_option maxHeartbeats 400000 in
theorem less_any (x : Nat) (i : Int) (w : World) (hx : x < 18446744073709551616) (h0 : -9223372036854775808 ≤ i) (h1 : i ≤ 9223372036854775807) :
    Calls Tryz.prog 81 #[.int .u64 x, .int .i64 i] w fun e w' => e = .returned (.int .u64 (Sm.less x i : Nat)) ∧ w = w' := by
  have H := Lib.hid (less_key x i hx)
  go_enter Tryz.func81, Tryz.ntmps81
  go_wp2_with (go_at_call 122; refine (bit_any _ _ h0 h1).mono ?_; rintro e w' ⟨rfl, rfl⟩)
  go_ret
  exact ⟨ret_int H.out, rfl⟩

/- how many -/
theorem k1 (x : Nat) (hx : x < 18446744073709551616) : IntKind.u64.wrap (bits .and .u64 ((x : Int) / 2) 6148914691236517205 + bits .and .u64 (x : Int) 6148914691236517205) = (Sm.q1 8 x : Nat) := by
  have h := Sm.q1_lt x
  rw [show ((x : Int) / 2) = ((x / 2 : Nat) : Int) from rfl, show (6148914691236517205 : Int) = ((6148914691236517205 : Nat) : Int) from rfl, bits_and_u64_nat _ _ (by omega) (by decide), bits_and_u64_nat _ _ hx (by decide), IntKind.wrap_u64]
  unfold Sm.q1 at h ⊢
  rw [Sm.m5_8] at h ⊢
  omega
theorem k2 (x : Nat) : IntKind.u64.wrap (bits .and .u64 (((Sm.q1 8 x : Nat) : Int) / 4) 3689348814741910323 + bits .and .u64 ((Sm.q1 8 x : Nat) : Int) 3689348814741910323) = (Sm.t12 8 x : Nat) := by
  have h := Sm.q1_lt x
  have h2 := Sm.q2_lt (Sm.q1 8 x)
  show _ = ((Sm.q2 8 (Sm.q1 8 x) : Nat) : Int)
  generalize Sm.q1 8 x = y at *
  rw [show ((y : Int) / 4) = ((y / 4 : Nat) : Int) from rfl, show (3689348814741910323 : Int) = ((3689348814741910323 : Nat) : Int) from rfl, bits_and_u64_nat _ _ (by omega) (by decide), bits_and_u64_nat _ _ h (by decide), IntKind.wrap_u64]
  unfold Sm.q2 at h2 ⊢
  rw [Sm.m3_8] at h2 ⊢
  omega
theorem t12_lt (x : Nat) : Sm.t12 8 x < 9223372036854775808 := Sm.q2_lt _
theorem k3 (x : Nat) : bits .and .u64 (IntKind.u64.wrap (((Sm.t12 8 x : Nat) : Int) / 16 + ((Sm.t12 8 x : Nat) : Int))) 1085102592571150095 = (Sm.t123 8 x : Nat) := by
  have h := t12_lt x
  show _ = ((Sm.q3 8 (Sm.t12 8 x) : Nat) : Int)
  generalize Sm.t12 8 x = y at *
  have e : IntKind.u64.wrap ((y : Int) / 16 + (y : Int)) = ((y / 16 + y : Nat) : Int) := by rw [IntKind.wrap_u64]; omega
  rw [e, show (1085102592571150095 : Int) = ((1085102592571150095 : Nat) : Int) from rfl, bits_and_u64_nat _ _ (by omega) (by decide)]
  unfold Sm.q3
  rw [Sm.mF_8]
theorem k4 (x : Nat) : IntKind.u64.wrap (((Sm.t123 8 x : Nat) : Int) + ((Sm.t123 8 x : Nat) : Int) / 256) = (Sm.z1 x : Nat) := by
  have h := Sm.pop x
  rw [IntKind.wrap_u64]; unfold Sm.z1 at *; omega
theorem k5 (x : Nat) : IntKind.u64.wrap (((Sm.z1 x : Nat) : Int) + ((Sm.z1 x : Nat) : Int) / 65536) = (Sm.z2 x : Nat) := by
  have h := Sm.pop x
  rw [IntKind.wrap_u64]; unfold Sm.z2 at *; omega
theorem k6 (x : Nat) : IntKind.u64.wrap (((Sm.z2 x : Nat) : Int) + ((Sm.z2 x : Nat) : Int) / 4294967296) = (Sm.z3 x : Nat) := by
  have h := Sm.pop x
  rw [IntKind.wrap_u64]; unfold Sm.z3 at *; omega
theorem k7 (x : Nat) : bits .and .i64 (wrap64 ((Sm.z3 x : Nat) : Int)) 127 = (Sm.count x : Nat) := by
  obtain ⟨_, _, _, h, hc⟩ := Sm.pop x
  have e : wrap64 ((Sm.z3 x : Nat) : Int) = ((Sm.z3 x : Nat) : Int) := by unfold wrap64; omega
  rw [e]
  have := bits_mask .i64 63 (by decide) (fun n h0 h1 => by rw [IntKind.wrap_i64]; omega) 7 (by decide) ((Sm.z3 x : Nat) : Int) (by omega) (by omega)
  have e2 : bits .and .i64 ((Sm.z3 x : Nat) : Int) 127 = ((Sm.z3 x : Nat) : Int) % 128 := this
  rw [e2]; omega
set_option maxHeartbeats 400000 in
theorem ones_any (x : Nat) (w : World) (h0 : x < 18446744073709551616) :
    Calls Tryz.prog 120 #[.int .u64 x] w fun e w' => e = .returned (.int .i64 (Sm.count x : Nat)) ∧ w = w' := by
  have e1 := k1 x h0
  have e2 := k2 x
  have e3 := k3 x
  have e4 := k4 x
  have e5 := k5 x
  have e6 := k6 x
  have e7 := k7 x
  go_enter Tryz.func120, Tryz.ntmps120
  go_wp2
  go_ret
  exact ⟨rfl, rfl⟩
set_option maxHeartbeats 400000 in
theorem count_any (x : Nat) (w : World) (h0 : x < 18446744073709551616) :
    Calls Tryz.prog 79 #[.int .u64 x] w fun e w' => e = .returned (.int .i64 (Sm.count x : Nat)) ∧ w = w' := by
  go_enter Tryz.func79, Tryz.ntmps79
  go_wp2_with (go_at_call 120; refine (ones_any _ _ h0).mono ?_; rintro e w' ⟨rfl, rfl⟩)
  go_ret
  exact ⟨rfl, rfl⟩

/- the least one -/
def TabAt (w : World) : Prop := ∀ j, j < 64 → w.cell? ⟨0, j, none⟩ = some (.int .u8 (Lib.deBruijn64tab.getD j 0))
set_option maxHeartbeats 1000000 in
theorem tz_core (x k idx : Nat) (w : World) (hx0 : ((x : Int) == 0) = false)
    (key : IntKind.u64.wrap (bits BinOp.and IntKind.u64 (x : Int) (IntKind.u64.wrap (-(x : Int))) * 285870213051353865) / 288230376151711744 = (idx : Int))
    (hi : idx < 64) (hk : k < 64) (hcell : w.cell? ⟨0, idx, none⟩ = some (.int .u8 k)) :
    Calls Tryz.prog 121 #[.int .u64 x] w fun e w' => e = .returned (.int .i64 k) ∧ w = w' := by
  go_enter Tryz.func121, Tryz.ntmps121
  go_wp2_with (simp only [key])
  go_ret
  exact ⟨rfl, rfl⟩
theorem tz_any (x : Nat) (w : World) (hx : x < 18446744073709551616) (h0 : x ≠ 0) (hT : TabAt w) :
    Calls Tryz.prog 121 #[.int .u64 x] w fun e w' => e = .returned (.int .i64 (Sm.first x : Nat)) ∧ w = w' := by
  obtain ⟨hlow, hk⟩ := Lib.lowest_bit 64 x h0 hx
  obtain ⟨hi, htab⟩ := Lib.deBruijn64_at _ hk
  have hc := hT _ hi
  rw [htab] at hc
  exact tz_core x _ _ w (by simpa using h0) (tz64_key x _ hx h0 hlow) hi hk hc
set_option maxHeartbeats 400000 in
theorem first_zero (w : World) : Calls Tryz.prog 80 #[.int .u64 0] w fun e w' => e = .returned (.int .i64 (-1)) ∧ w = w' := by
  go_enter Tryz.func80, Tryz.ntmps80
  go_wp2
  go_ret
  exact ⟨rfl, rfl⟩
set_option maxHeartbeats 400000 in
theorem first_any (x : Nat) (w : World) (hx : x < 18446744073709551616) (h0 : x ≠ 0) (hT : TabAt w) :
    Calls Tryz.prog 80 #[.int .u64 x] w fun e w' => e = .returned (.int .i64 (Sm.first x : Nat)) ∧ w = w' := by
  have h0' : ((x : Int) == 0) = false := by simpa using h0
  go_enter Tryz.func80, Tryz.ntmps80
  go_wp2_with (go_at_call 121; refine (tz_any _ _ hx h0 hT).mono ?_; rintro e w' ⟨rfl, rfl⟩)
  go_ret
  exact ⟨rfl, rfl⟩
end Go.Proofs.YtfdfiiocccafkaaGreatDoor
namespace Go.Proofs.YtfdfiiocccafkaaGreatDoor
open Go.RowKit
def i64s (z : Int) : Prop := -9223372036854775808 ≤ z ∧ z ≤ 9223372036854775807
/-- a slice reads as these numbers. -/
def IntsAt (w : World) (A : Option Addr) (n : Nat) (zs : List Int) : Prop :=
  zs.length = n ∧ (0 < n → ∃ ad, A = some ad ∧ ∀ j z, zs[j]? = some z → w.cell? (ad.add j) = some (.int .i64 z)) ∧ ∀ z ∈ zs, i64s z
theorem IntsAt.at_ {w : World} {A : Option Addr} {n k : Nat} {zs : List Int} (h : IntsAt w A n zs) (hk : k < n) :
    ∃ ad z, A = some ad ∧ zs[k]? = some z ∧ w.cell? (ad.add k) = some (.int .i64 z) ∧ -9223372036854775808 ≤ z ∧ z ≤ 9223372036854775807 := by
  obtain ⟨ad, e, hc⟩ := h.2.1 (by omega)
  have hl : k < zs.length := by have := h.1; omega
  have := h.2.2 zs[k] (List.getElem_mem hl)
  exact ⟨ad, zs[k], e, List.getElem?_eq_getElem hl, hc k _ (List.getElem?_eq_getElem hl), this.1, this.2⟩
theorem IntsAt.keep {w w' : World} {A : Option Addr} {n : Nat} {zs : List Int} (h : IntsAt w A n zs) (hk : ∀ ad, A = some ad → ∀ j, j < n → w'.cell? (ad.add j) = w.cell? (ad.add j)) : IntsAt w' A n zs :=
  ⟨h.1, fun hn => by
    obtain ⟨ad, e, hc⟩ := h.2.1 hn
    refine ⟨ad, e, fun j u hu => (hk ad e j ?_).trans (hc j u hu)⟩
    have := (List.getElem?_eq_some_iff.1 hu).1
    have := h.1
    omega, h.2.2⟩
theorem take_step {zs : List Int} {k : Nat} {z : Int} (h : zs[k]? = some z) : zs.take (k + 1) = zs.take k ++ [z] := by
  obtain ⟨hl, rfl⟩ := List.getElem?_eq_some_iff.1 h
  exact List.take_succ_eq_append_getElem hl

def intOf : Value → Int | .int _ q => q | _ => 0
set_option maxHeartbeats 400000 in
theorem of_any (A : Option Addr) (n c : Nat) (zs : List Int) (w : World) (hn : n ≤ 9223372036854775807) (h : IntsAt w A n zs) :
    Calls Tryz.prog 174 #[.slice A n c] w fun e w' => e = .returned (.int .u64 (Sm.ofL 0 zs : Nat)) ∧ w = w' := by
  have H := Lib.hid h
  clear h
  go_enter Tryz.func174, Tryz.ntmps174
  go_wp2
  go_loop [3, 8] (fun s i => ∃ k : Nat, k ≤ n ∧ i = .int .i64 k ∧ s = .int .u64 (Sm.ofL 0 (zs.take k) : Nat)) (fun _ i => n - (intOf i).toNat)
  case atStart => exact ⟨0, Nat.zero_le _, rfl, rfl⟩
  case round =>
    obtain ⟨k, hk, rfl, rfl⟩ := hrel
    have hb := Sm.ofL_lt (x := 0) (zs.take k) (by decide)
    by_cases hlt : k < n
    · obtain ⟨ad, z, rfl, hz, hc, h0, h1⟩ := H.out.at_ hlt
      have HS := Lib.hid (take_step hz)
      clear hz
      go_wp2_with (go_at_call 111; refine (with_any _ _ _ hb h0 h1).mono ?_; rintro e w' ⟨rfl, rfl⟩)
      go_round
      case rel => exact ⟨k + 1, by omega, by go_num, by rw [HS.out, Sm.ofL_snoc]⟩
      case measure => simp [intOf]; omega
    · go_wp2
      go_ret
      exact ⟨ret_int (by rw [List.take_of_length_le (by have := H.out.1; omega)]), rfl⟩
end Go.Proofs.YtfdfiiocccafkaaGreatDoor
namespace Go.Proofs.YtfdfiiocccafkaaGreatDoor
open Go.RowKit

theorem exit_jump_mono {l : Nat} {J J' : Act → World → Prop} {Q : Exit → Act → World → Prop} (h : ∀ a w, J a w → J' a w) : ∀ e a w, Exit.jump l J Q e a w → Exit.jump l J' Q e a w := by
  intro e a w hh
  cases e <;> first | exact hh | exact ⟨hh.1, h _ _ hh.2⟩
theorem wp_scope_jumps3 {P : Program} {a : Act} {w : World} {Q : Exit → Act → World → Prop} {c X : Code} (l : Nat) (J : Act → World → Prop) (μ : Act → World → Nat) (hf : findLabel c l = some (Code.skip.seq X))
    (first : (∀ a w, J a w → X.wp P (Exit.jump l J Q) a w) → c.wp P (Exit.jump l J Q) a w)
    (pass : ∀ a w, J a w → X.wp P (Exit.jump l (fun a' w' => J a' w' ∧ μ a' w' < μ a w) Q) a w) : (Code.scope c).wp P Q a w :=
  wp_scope_jumps l J μ hf (first fun a w h => wp_mono (pass a w h) (exit_jump_mono fun _ _ hh => hh.1)) fun a w h => wp_seq (wp_skip (pass a w h))

theorem int_info : (Tryz.prog.info? 3).map (fun i => (i.zero, i.size, i.bytes)) = some (some (.int .i64 0), 1, 8) := by kernel_rfl
def vals (l : List Nat) : List Value := l.map fun (k : Nat) => Value.int .i64 (k : Int)
def ItemsPost (x : Nat) (w : World) (e : Ending) (w' : World) : Prop :=
  ∃ v, e = .returned v ∧ w'.ownsRow w.heap.size 3 1 v (Sm.items x).length (vals (Sm.items x)) ∧ Below w.heap.size w w'
theorem TabAt.lt {w : World} (h : TabAt w) : 0 < w.heap.size := by
  have := h 0 (by decide)
  rcases Nat.lt_or_ge 0 w.heap.size with hl | hg
  · exact hl
  · simp [World.cell?, Array.getElem?_eq_none hg] at this
theorem TabAt.below {w w' : World} {B : Nat} (h : TabAt w) (hb : Below B w w') (hB : 0 < B) : TabAt w' := fun j hj => (hb.cell (p := ⟨0, j, none⟩) hB).trans (h j hj)

def ItemsJ (x : Nat) (w : World) (a' : Act) (w' : World) : Prop :=
  ∃ (y : Nat) (l : Value) (done : List Nat) (u4 u5 u6 u7 u8 u9 u10 u11 u12 u13 u14 u15 u16 u17 u18 u19 : Value),
    a' = { tmps := #[.int .u64 y, undef, .slice none 0 0, l, u4, u5, u6, u7, u8, u9, u10, u11, u12, u13, u14, u15, u16, u17, u18, u19], defers := [] } ∧
    y < 18446744073709551616 ∧ done ++ Sm.items y = Sm.items x ∧ w'.ownsRow w.heap.size 3 1 l done.length (vals done) ∧ Below w.heap.size w w'

set_option maxHeartbeats 1000000 in
set_option maxRecDepth 100000 in
theorem items_any (x : Nat) (w : World) (hx : x < 18446744073709551616) (hT : TabAt w) : Calls Tryz.prog 39 #[.int .u64 x] w (ItemsPost x w) := by
  obtain ⟨i0, hi, hz0, hz1, hz2⟩ := info_parts int_info
  have hlen := Sm.items_len x
  have hcl : Sm.count x ≤ 64 := hlen
  have HT := Lib.hid hT
  clear hT
  go_enter Tryz.func39, Tryz.ntmps39
  go_wp2
  refine wp_scope_jumps3 0 (ItemsJ x w) (fun a' _ => Sm.count (intOf (a'.tmps.getD 0 undef)).toNat) rfl ?_ ?_
  · intro hp
    have HP := Lib.hid hp
    clear hp
    have hmk := fun W => run_make (P := Tryz.prog) W 107 3 i0 (.int .i64 0) Tryz.underlying107 hi hz0 .i64 .i64 0 (Sm.count x : Nat) (by omega) (by omega) (by rw [hz2]; omega) (by omega)
    go_wp2_with (first
      | (go_at_call 79; refine (count_any _ _ hx).mono ?_; rintro e w' ⟨rfl, rfl⟩)
      | fail)
    go_step3
    rename_i hK
    apply hK
    refine HP.out _ _ ⟨x, _, [], _, _, _, _, _, _, _, _, _, _, _, _, _, _, _, _, rfl, hx, rfl, ?_, ?_⟩
    · exact World.ownsRow_made w _ _ (Nat.le_refl _) (by unfold maxLen; omega) (by simp [size_madeCells])
    · exact (Below.refl _ _).alloc (Nat.le_refl _) _
  · rintro a' wr ⟨y, l, done, u4, u5, u6, u7, u8, u9, u10, u11, u12, u13, u14, u15, u16, u17, u18, u19, rfl, hy, hdone, hown, hbel⟩
    have HD := Lib.hid hdone
    have HO := Lib.hid hown
    have hdl : done.length ≤ 64 := by
      have := congrArg List.length hdone
      rw [List.length_append] at this
      omega
    have HTr := Lib.hid (HT.out.below hbel HT.out.lt)
    clear hdone hown
    by_cases h0 : y = 0
    · subst h0
      go_wp2
      simp only [Exit.jump]
      go_ret
      refine ⟨l, rfl, ?_, hbel⟩
      have e : done = Sm.items x := by rw [← HD.out, Sm.items_zero, List.append_nil]
      rw [← e]; exact HO.out
    · have hy0 : ((y : Int) == 0) = false := by simpa using h0
      obtain ⟨hf1, hf2, hf3⟩ := Sm.first_spec h0 hy
      have Hc := Lib.hid (Sm.items_cons hy hf1 hf2 hf3)
      have Hn := Lib.hid (Sm.less_count hy hf1 hf2 hf3)
      clear hf2 hf3
      go_wp2_with (first
        | (go_at_call 80; refine (first_any _ _ hy h0 HTr.out).mono ?_; rintro e w' ⟨rfl, rfl⟩)
        | (at_builtin; refine wpList_append_own _ rfl _ _ 107 rfl w.heap.size 3 i0 (.int .i64 0) 1 8 Tryz.underlying107 hi hz0 hz1 hz2 rfl (by decide) _ _ _ rfl (HO.out.alloc _) ⟨wr.heap.size, 0, none⟩ 1 1 [.int .i64 (Sm.first y : Nat)] rfl rfl ?c1 ?c2 ?c3 ?c4 ?c5 ?_)
        | (go_at_call 81; refine (less_any _ _ _ hy (by omega) (by omega)).mono ?_; rintro e w' ⟨rfl, rfl⟩))
      case c1 =>
        intro j u hj
        match j, hj with
        | 0, hj => simp at hj; subst hj; simp [Addr.add]
      case c2 => intro u hu; simp at hu; subst hu; rfl
      case c3 => unfold maxLen; omega
      case c4 => omega
      case c5 => have := hbel.size; simp; omega
      intro v' w1 hown' hgrow _
      have HO' := Lib.hid hown'
      clear hown'
      go_wp2_with (go_at_call 81; refine (less_any _ _ _ hy (by omega) (by omega)).mono ?_; rintro e w' ⟨rfl, rfl⟩)
      go_step3
      have hbel' : Below w.heap.size w w1 := (hbel.alloc hbel.size _).grown hgrow (by have := hbel.size; simp; omega) (fun k hk => (HO.out.lt k hk).1)
      refine ⟨rfl, ⟨Sm.less y (Sm.first y : Nat), v', done ++ [Sm.first y], _, _, _, _, _, _, _, _, _, _, _, _, _, _, _, _, rfl, Sm.less_lt _ hy, ?_, ?_, hbel'⟩, ?_⟩
      · rw [List.append_assoc, ← HD.out, Hc.out]; rfl
      · have e : vals (done ++ [Sm.first y]) = vals done ++ [Value.int IntKind.i64 (Sm.first y : Nat)] := by simp [vals]
        rw [e, List.length_append]; exact HO'.out
      · show Sm.count (intOf (.int .u64 (Sm.less y (Sm.first y : Nat) : Nat))).toNat < Sm.count (intOf (.int .u64 (y : Nat))).toNat
        simp only [intOf, Int.toNat_natCast]
        have := Hn.out
        omega
end Go.Proofs.YtfdfiiocccafkaaGreatDoor
namespace Go.Proofs.YtfdfiiocccafkaaGreatDoor
open Go.RowKit

theorem pow_lt64 {k : Nat} (h : k ≤ 63) : (2 : Nat) ^ k < 18446744073709551616 := by
  have : (2 : Nat) ^ k < 2 ^ 64 := Nat.pow_lt_pow_right (by decide) (by omega)
  simpa using this
theorem pow_step {k : Nat} (h : k < 63) : IntKind.u64.wrap (((2 ^ k : Nat) : Int) * 2) = ((2 ^ (k + 1) : Nat) : Int) := by
  have := pow_lt64 (k := k + 1) (by omega)
  rw [IntKind.wrap_u64]
  have e : (2 : Nat) ^ (k + 1) = 2 ^ k * 2 := Nat.pow_succ ..
  rw [e] at this ⊢
  generalize 2 ^ k = y at *
  omega
def pw (k : Nat) : Nat := 2 ^ k
set_option maxHeartbeats 400000 in
theorem power_any (n : Nat) (w : World) (h : n ≤ 63) :
    Calls Tryz.prog 143 #[.int .i64 (n : Nat)] w fun e w' => e = .returned (.int .u64 (pw n : Nat)) ∧ w = w' := by
  go_enter Tryz.func143, Tryz.ntmps143
  go_wp2
  go_loop [3, 4] (fun p i => ∃ k : Nat, k ≤ n ∧ i = .int .i64 k ∧ p = .int .u64 (pw k : Nat)) (fun _ i => n - (intOf i).toNat)
  case atStart => exact ⟨0, Nat.zero_le _, rfl, rfl⟩
  case round =>
    obtain ⟨k, hk, rfl, rfl⟩ := hrel
    by_cases hlt : k < n
    · have hs : IntKind.u64.wrap ((pw k : Nat) * 2 : Int) = (pw (k + 1) : Nat) := pow_step (by omega)
      go_wp2
      go_round
      case rel => exact ⟨k + 1, by omega, by go_num, rfl⟩
      case measure => simp [intOf]; omega
    · obtain rfl : k = n := by omega
      go_wp2
      go_ret
      exact ⟨rfl, rfl⟩
theorem test_div (x k : Nat) : ((((x : Nat) : Int) / ((pw k : Nat) : Int) % 2 : Int) == 1) = x.testBit k := by
  rw [Nat.testBit_eq_decide_div_mod_eq, Bool.eq_iff_iff]
  unfold pw
  generalize 2 ^ k = y
  have e : ((x : Int) / (y : Int) % 2) = ((x / y % 2 : Nat) : Int) := by rw [Int.natCast_emod, Int.natCast_ediv]; rfl
  rw [e]
  simp
  omega
theorem test_tmod (x k : Nat) (hx : x < 18446744073709551616) : ((IntKind.u64.wrap (((x : Nat) : Int) / ((pw k : Nat) : Int))).tmod 2 == 1) = x.testBit k := by
  have e : ((x : Int) / ((pw k : Nat) : Int)) = ((x / pw k : Nat) : Int) := by rw [Int.natCast_ediv]
  have hle : x / pw k ≤ x := Nat.div_le_self _ _
  have hd := test_div x k
  rw [e] at hd ⊢
  generalize x / pw k = q at *
  have e2 : IntKind.u64.wrap (q : Int) = (q : Int) := by rw [IntKind.wrap_u64]; omega
  rw [e2, Int.tmod_eq_emod_of_nonneg (by omega)]
  exact hd
theorem pw_ne (k : Nat) : ((((pw k : Nat) : Int)) == 0) = false := by
  have : 0 < pw k := Nat.pow_pos (by decide)
  simp; omega
theorem pw_pos (k : Nat) : 0 < pw k := Nat.pow_pos (by decide)
set_option maxHeartbeats 400000 in
theorem rhas_any (x : Nat) (i : Int) (w : World) (hx : x < 18446744073709551616) (h0 : -9223372036854775808 ≤ i) (h1 : i ≤ 9223372036854775807) :
    Calls Tryz.prog 102 #[.int .u64 x, .int .i64 i] w fun e w' => e = .returned (.bool (Sm.has x i)) ∧ w = w' := by
  by_cases hn : 0 ≤ i
  · by_cases hg : i < 64
    · obtain ⟨k, rfl⟩ := Int.eq_ofNat_of_zero_le hn
      have H := Lib.hid (test_tmod x k hx)
      have H2 := Lib.hid (Sm.has_nat k hx)
      have hp := pw_pos k
      have hpn := pw_ne k
      go_enter Tryz.func102, Tryz.ntmps102
      go_wp2_with (go_at_call 143; refine (power_any _ _ (by omega)).mono ?_; rintro e w' ⟨rfl, rfl⟩)
      go_ret
      rw [H2.out]
      exact ⟨ret_bool H.out, rfl⟩
    · have hd : decide (i < 64) = false := by simp; omega
      have H := Lib.hid (show Sm.has x i = false by rw [Sm.has_eq i hn hx, Sm.test_big hx (by omega)])
      go_enter Tryz.func102, Tryz.ntmps102
      go_wp2
      go_ret
      rw [H.out]
      exact ⟨rfl, rfl⟩
  · have hd : decide (0 ≤ i) = false := by simp; omega
    have H := Lib.hid (show Sm.has x i = false from Sm.has_neg (by omega))
    go_enter Tryz.func102, Tryz.ntmps102
    go_wp2
    go_ret
    rw [H.out]
    exact ⟨rfl, rfl⟩
theorem or_free {x k : Nat} (h : x.testBit k = false) : x ||| 2 ^ k = x + 2 ^ k := by
  have e : x = (x / 2 ^ (k + 1)) * 2 ^ (k + 1) + x % 2 ^ k := by
    have h1 : x % 2 ^ (k + 1) = x % 2 ^ k := by
      rw [Nat.testBit_eq_decide_div_mod_eq] at h
      have h2 : x / 2 ^ k % 2 = 0 := by
        have := of_decide_eq_false h
        omega
      rw [Nat.pow_succ, Nat.mod_mul, h2]
      simp
    have := Nat.div_add_mod x (2 ^ (k + 1))
    rw [h1, Nat.mul_comm] at this
    exact this.symm
  apply Nat.eq_of_testBit_eq
  intro j
  rw [Nat.testBit_or, Nat.testBit_two_pow]
  have hm : x % 2 ^ k < 2 ^ k := Nat.mod_lt _ (Nat.pow_pos (by decide))
  have e2 : x + 2 ^ k = 2 ^ (k + 1) * (x / 2 ^ (k + 1)) + (2 ^ k + x % 2 ^ k) := by
    rw [Nat.mul_comm (2 ^ (k + 1))]
    omega
  have e3 : x = 2 ^ (k + 1) * (x / 2 ^ (k + 1)) + x % 2 ^ k := by rw [Nat.mul_comm]; exact e
  have hlt : 2 ^ k + x % 2 ^ k < 2 ^ (k + 1) := by rw [Nat.pow_succ]; omega
  rw [e2, Nat.testBit_two_pow_mul_add _ hlt]
  conv => lhs; lhs; rw [e3, Nat.testBit_two_pow_mul_add _ (Nat.lt_trans hm (Nat.pow_lt_pow_right (by decide) (by omega)))]
  by_cases hj : j < k + 1
  · simp only [hj, if_true]
    by_cases hjk : k = j
    · subst hjk
      rw [Nat.testBit_two_pow_add_eq, Nat.testBit_lt_two_pow hm]
      simp
    · rw [Nat.testBit_two_pow_add_gt (by omega)]
      simp [hjk]
  · simp only [hj, if_false]
    have : ¬ k = j := by omega
    simp [this]
theorem add_not {x k : Nat} (hk : k ≤ 63) (h : x.testBit k = false) : Sm.add x (k : Nat) = x + pw k := by
  unfold Sm.add
  rw [Sm.bit_in (by omega) (by omega), Int.toNat_natCast]
  exact or_free h
theorem less_yes {x k : Nat} (hx : x < 18446744073709551616) (hk : k ≤ 63) (h : x.testBit k = true) : Sm.less x (k : Nat) + pw k = x := by
  have h1 : (Sm.less x (k : Nat)).testBit k = false := by
    rw [Sm.less_test _ _ hx, decide_eq_true (by omega)]; simp
  have h2 := add_not hk h1
  rw [← h2]
  apply Sm.ext; intro j
  rw [Sm.add_test, Sm.less_test _ _ hx]
  by_cases e : j = k
  · subst e
    rw [decide_eq_true (by omega : (0 ≤ ((j : Nat) : Int) ∧ ((j : Nat) : Int) ≤ 63 ∧ ((j : Nat) : Int) = ((j : Nat) : Int)))]; simp [h]
  · rw [decide_eq_false (by omega : ¬ (0 ≤ ((k : Nat) : Int) ∧ ((k : Nat) : Int) ≤ 63 ∧ ((j : Nat) : Int) = ((k : Nat) : Int)))]; simp
theorem rhas_val (x : Nat) (i : Int) (b : Bool) (w : World) (hx : x < 18446744073709551616) (h0 : -9223372036854775808 ≤ i) (h1 : i ≤ 9223372036854775807) (h : Sm.has x i = b) :
    Calls Tryz.prog 102 #[.int .u64 x, .int .i64 i] w fun e w' => e = .returned (.bool b) ∧ w = w' := by
  have := rhas_any x i w hx h0 h1
  rw [h] at this
  exact this
set_option maxHeartbeats 400000 in
theorem rwith_any (x : Nat) (i : Int) (w : World) (hx : x < 18446744073709551616) (h0 : -9223372036854775808 ≤ i) (h1 : i ≤ 9223372036854775807) :
    Calls Tryz.prog 140 #[.int .u64 x, .int .i64 i] w fun e w' => e = .returned (.int .u64 (Sm.add x i : Nat)) ∧ w = w' := by
  by_cases hn : i < 0
  · have H := Lib.hid (show Sm.add x i = x by unfold Sm.add; rw [Sm.bit_out (.inl hn), Nat.or_zero])
    go_enter Tryz.func140, Tryz.ntmps140
    go_wp2
    go_ret
    rw [H.out]
    exact ⟨rfl, rfl⟩
  · have hd1 : decide (i < 0) = false := by simp; omega
    by_cases hg : 63 < i
    · have H := Lib.hid (show Sm.add x i = x by unfold Sm.add; rw [Sm.bit_out (.inr hg), Nat.or_zero])
      go_enter Tryz.func140, Tryz.ntmps140
      go_wp2
      go_ret
      rw [H.out]
      exact ⟨rfl, rfl⟩
    · have hd2 : decide (63 < i) = false := by simp; omega
      obtain ⟨k, rfl⟩ := Int.eq_ofNat_of_zero_le (by omega : 0 ≤ i)
      cases hb : x.testBit k
      · have H := Lib.hid (add_not (by omega) hb)
        have hh := Lib.hid (show Sm.has x (k : Nat) = false by rw [Sm.has_nat k hx, hb])
        have hlt := Sm.add_lt (k : Nat) hx
        have hle : x + pw k < 18446744073709551616 := by rw [← H.out]; exact hlt
        have hw : IntKind.u64.wrap ((x : Int) + (pw k : Nat)) = ((x + pw k : Nat) : Int) := by rw [IntKind.wrap_u64]; omega
        have HW := Lib.hid hw
        clear hb hlt hle hw
        go_enter Tryz.func140, Tryz.ntmps140
        go_wp2_with (first
          | (go_at_call 102; refine (rhas_val _ _ _ _ hx h0 h1 hh.out).mono ?_; rintro e w' ⟨rfl, rfl⟩)
          | (go_at_call 143; refine (power_any _ _ (by omega)).mono ?_; rintro e w' ⟨rfl, rfl⟩))
        go_ret
        rw [H.out]
        exact ⟨ret_int HW.out, rfl⟩
      · have H := Lib.hid (show Sm.add x (k : Nat) = x by
          apply Sm.ext; intro j
          rw [Sm.add_test]
          by_cases e : j = k
          · subst e; simp [hb]
          · rw [decide_eq_false (by omega : ¬ (0 ≤ ((k : Nat) : Int) ∧ ((k : Nat) : Int) ≤ 63 ∧ ((j : Nat) : Int) = ((k : Nat) : Int)))]; simp)
        have hh := Lib.hid (show Sm.has x (k : Nat) = true by rw [Sm.has_nat k hx, hb])
        clear hb
        go_enter Tryz.func140, Tryz.ntmps140
        go_wp2_with (go_at_call 102; refine (rhas_val _ _ _ _ hx h0 h1 hh.out).mono ?_; rintro e w' ⟨rfl, rfl⟩)
        go_ret
        rw [H.out]
        exact ⟨rfl, rfl⟩
set_option maxHeartbeats 400000 in
theorem rless_any (x : Nat) (i : Int) (w : World) (hx : x < 18446744073709551616) (h0 : -9223372036854775808 ≤ i) (h1 : i ≤ 9223372036854775807) :
    Calls Tryz.prog 168 #[.int .u64 x, .int .i64 i] w fun e w' => e = .returned (.int .u64 (Sm.less x i : Nat)) ∧ w = w' := by
  cases hb : Sm.has x i
  · have H := Lib.hid (show Sm.less x i = x by
      apply Sm.ext; intro j
      rw [Sm.less_test _ _ hx]
      by_cases e : 0 ≤ i ∧ i ≤ 63 ∧ (j : Int) = i
      · have : x.testBit j = false := by
          rw [Sm.has_eq i e.1 hx] at hb
          rwa [show i.toNat = j from by omega] at hb
        simp [this]
      · rw [decide_eq_false e]; simp)
    have HB := Lib.hid hb
    clear hb
    go_enter Tryz.func168, Tryz.ntmps168
    go_wp2_with (go_at_call 102; refine (rhas_val _ _ _ _ hx h0 h1 HB.out).mono ?_; rintro e w' ⟨rfl, rfl⟩)
    go_ret
    rw [H.out]
    exact ⟨rfl, rfl⟩
  · have hn : 0 ≤ i := by
      apply Classical.byContradiction
      intro h
      rw [Sm.has_neg (by omega)] at hb
      cases hb
    obtain ⟨k, rfl⟩ := Int.eq_ofNat_of_zero_le hn
    have HB := Lib.hid hb
    rw [Sm.has_nat k hx] at hb
    have hk : k ≤ 63 := by
      apply Classical.byContradiction
      intro h
      rw [Sm.test_big hx (by omega)] at hb
      cases hb
    have hl := less_yes hx hk hb
    have hw : IntKind.u64.wrap ((x : Int) - (pw k : Nat)) = ((Sm.less x (k : Nat) : Nat) : Int) := by rw [IntKind.wrap_u64]; omega
    have HW := Lib.hid hw
    clear hb hl hw
    go_enter Tryz.func168, Tryz.ntmps168
    go_wp2_with (first
      | (go_at_call 102; refine (rhas_val _ _ _ _ hx h0 h1 HB.out).mono ?_; rintro e w' ⟨rfl, rfl⟩)
      | (go_at_call 143; refine (power_any _ _ hk).mono ?_; rintro e w' ⟨rfl, rfl⟩))
    go_ret
    exact ⟨ret_int HW.out, rfl⟩
end Go.Proofs.YtfdfiiocccafkaaGreatDoor
namespace Go.Proofs.YtfdfiiocccafkaaGreatDoor
open Go.RowKit
/-- of the first k numbers whether each is in; then false. -/
def bitArr (x k : Nat) : Array Value := ((List.range 64).map fun i => Value.bool (decide (i < k) && x.testBit i)).toArray
theorem bitArr_size (x k : Nat) : (bitArr x k).size = 64 := by simp [bitArr]
theorem bitArr_get (x k i : Nat) (h : i < 64) : (bitArr x k)[i]? = some (.bool (decide (i < k) && x.testBit i)) := by simp [bitArr, h]
theorem bitArr_zero (x : Nat) : bitArr x 0 = Array.replicate 64 (Value.bool false) := by
  apply Array.ext_getElem?
  intro i
  by_cases h : i < 64
  · rw [bitArr_get x 0 i h]; simp [h]
  · rw [Array.getElem?_eq_none (by rw [bitArr_size]; omega), Array.getElem?_eq_none (by simp; omega)]
theorem bitArr_step (x k : Nat) : (bitArr x k).setIfInBounds k (.bool (x.testBit k)) = bitArr x (k + 1) := by
  apply Array.ext_getElem?
  intro i
  by_cases h : i < 64
  · rw [Array.getElem?_setIfInBounds, bitArr_get x (k + 1) i h, bitArr_get x k i h]
    by_cases e : k = i
    · subst e
      simp [bitArr_size, h]
    · have : (decide (i < k + 1)) = decide (i < k) := by rw [decide_eq_decide]; omega
      simp [e, this]
  · rw [Array.getElem?_eq_none (by simp [bitArr_size]; omega), Array.getElem?_eq_none (by rw [bitArr_size]; omega)]
theorem bitArr_one (x k : Nat) : (bitArr x k).all (·.oneCell') = true := by
  rw [Array.all_eq_true]
  intro i hi
  rw [bitArr_size] at hi
  have := bitArr_get x k i hi
  rw [Array.getElem?_eq_getElem (by rw [bitArr_size]; exact hi)] at this
  injection this with this
  rw [this]; rfl
theorem boolarr_info : (Tryz.prog.info? 275).map (·.size) = some 64 := by kernel_rfl
theorem heap_set {w : World} {g i : Nat} {cs : Array Value} {t : TypeId} {fr : Nat × Nat} {v : Value} (h : w.heap[g]? = some (.cells cs t fr)) : (w.setCell ⟨g, i, none⟩ v).heap[g]? = some (.cells (cs.setIfInBounds i v) t fr) := by
  simp [World.setCell, Array.getElem?_modify, h]
theorem frozen_of_row {w : World} {g i : Nat} {cs : Array Value} {t : TypeId} (h : w.heap[g]? = some (.cells cs t (0, 0))) : w.frozen? ⟨g, i, none⟩ = false := by simp [World.frozen?, h]
def hv (x k : Nat) : Nat := x / pw k
theorem hv_half (x k : Nat) : ((hv x k : Nat) : Int) / 2 = ((hv x (k + 1) : Nat) : Int) := by
  have : hv x (k + 1) = hv x k / 2 := by
    unfold hv pw
    rw [Nat.pow_succ, Nat.div_div_eq_div_mul]
  rw [this]; rfl
theorem hv_test (x k : Nat) : ((((hv x k : Nat) : Int) % 2 : Int) == 1) = x.testBit k := by
  rw [← test_div x k]
  unfold hv
  rw [Int.natCast_ediv]
theorem hv_lt {x : Nat} (k : Nat) (h : x < 18446744073709551616) : hv x k < 18446744073709551616 := Nat.lt_of_le_of_lt (Nat.div_le_self _ _) h
theorem hv_zero (x : Nat) : hv x 0 = x := by simp [hv, pw]
def BitsRel (x : Nat) (w : World) (s i : Value) (wr : World) : Prop :=
  ∃ k : Nat, k ≤ 64 ∧ i = .int .i64 k ∧ s = .int .u64 (hv x k : Nat) ∧ wr.heap[w.heap.size]? = some (.cells (bitArr x 0) 275 (0, 0)) ∧
    wr.heap[w.heap.size + 1]? = some (.cells (bitArr x k) 275 (0, 0)) ∧ Below w.heap.size w wr
set_option maxHeartbeats 1000000 in
set_option maxRecDepth 100000 in
theorem bits_any (x : Nat) (w : World) (hx : x < 18446744073709551616) :
    Calls Tryz.prog 178 #[.int .u64 x] w fun e w' => e = .returned (.agg (bitArr x 64)) ∧ Below w.heap.size w w' := by
  go_enter Tryz.func178, Tryz.ntmps178
  go_wp2
  go_loopw [0, 4] (BitsRel x w) (fun _ i _ => 64 - (intOf i).toNat)
  case atStart =>
    refine ⟨0, by omega, rfl, ?_, ?_, ?_, ((Below.refl _ _).alloc (Nat.le_refl _) _).alloc (by simp) _⟩
    · rw [hv_zero]
    · rw [heap_alloc2_old, bitArr_zero]; rfl
    · rw [heap_alloc2_new, bitArr_zero]; rfl
  case round =>
    obtain ⟨k, hk, rfl, rfl, hh0, hh1, hb⟩ := hrel
    have H0 := Lib.hid hh0
    have H1 := Lib.hid hh1
    by_cases hlt : k < 64
    · have hc : wr.cell? ⟨w.heap.size + 1, k, none⟩ = some (.bool (decide (k < k) && x.testBit k)) := by
        rw [cell_of_row _ _ _ _ _ _ hh1, bitArr_get x k k hlt]
      have hf : wr.frozen? ⟨w.heap.size + 1, k, none⟩ = false := frozen_of_row hh1
      clear hh0 hh1
      have hq := hv_lt k hx
      have HT := Lib.hid (hv_test x k)
      have HS := Lib.hid (hv_half x k)
      go_wp2
      rw [HT.out, HS.out]
      refine ⟨⟨k + 1, by omega, by go_num, rfl, ?_, ?_, hb.setCell (by simp) _⟩, by simp [intOf]; omega⟩
      · rw [Below.heap_setCell _ _ _ _ (by simp)]; exact H0.out
      · rw [heap_set H1.out, bitArr_step]
    · obtain rfl : k = 64 := by omega
      clear hh0 hh1
      go_wp2_with (first
        | (refine wpList_load_row (o := ⟨some 16, _, _, _, _, _⟩) rfl 275 (.tmp 3) rfl (w.heap.size + 1) rfl 275 (bitArr x 64) (0, 0) _ H1.out Tryz.underlying275 rfl (by rw [bitArr_size]; exact boolarr_info) ?_)
        | (refine wpList_store_row rfl 275 (.tmp 2) (.tmp 16) rfl w.heap.size (bitArr x 64) rfl rfl 275 (bitArr x 0) H0.out (by rw [bitArr_size]; exact boolarr_info) (by rw [bitArr_size, bitArr_size]) (bitArr_one _ _) ?_))
      refine bodyPost_ret (v := .agg (bitArr x 64)) (results_cell_row rfl _ _ w.heap.size 275 (bitArr x 64) (0, 0) _ rfl (setRow_heap _ _ _ _ _ _ H0.out) Tryz.underlying275 rfl (by rw [bitArr_size]; exact boolarr_info)) rfl ⟨rfl, ?_⟩
      exact ⟨hb.os, hb.tape, hb.output, by simpa [World.setRow] using hb.size, fun i hi => (setRow_other _ _ _ _ (by omega)).trans (hb.block i hi)⟩
theorem setRow_below {B g : Nat} {a w : World} {cs : Array Value} (h : Below B a w) (hg : B ≤ g) : Below B a (w.setRow g cs) :=
  ⟨h.os, h.tape, h.output, by simpa [World.setRow] using h.size, fun i hi => (setRow_other _ _ _ _ (by omega)).trans (h.block i hi)⟩
end Go.Proofs.YtfdfiiocccafkaaGreatDoor
