/-
  The contract of set.Of: of any row of whole numbers it is the set of those that may be in one.
-/
import Derived.Test.YtakoceablbgchaaDoorSetWalks
import Derived.Below
import Derived.Laws.OwnMore
import Derived.LoopTactic
namespace Go.Proofs.YtakoceablbgchaaDoor
open Go.RowKit
def i64s (z : Int) : Prop := -9223372036854775808 ≤ z ∧ z ≤ 9223372036854775807
/-- a slice reads as these numbers. -/
def IntsAt (w : World) (A : Option Addr) (n : Nat) (zs : List Int) : Prop :=
  zs.length = n ∧ (0 < n → ∃ ad, A = some ad ∧ ∀ j z, zs[j]? = some z → w.cell? (ad.add j) = some (.int .i64 z)) ∧ ∀ z ∈ zs, i64s z
theorem IntsAt.at_ {w : World} {A : Option Addr} {n k : Nat} {zs : List Int} (h : IntsAt w A n zs) (hk : k < n) :
    ∃ ad z, A = some ad ∧ zs[k]? = some z ∧ w.cell? (ad.add k) = some (.int .i64 z) ∧ -9223372036854775808 ≤ z ∧ z ≤ 9223372036854775807 := by
  obtain ⟨ad, e, hc⟩ := h.2.1 (by omega)
  have hl : k < zs.length := by have := h.1; omega
  have := h.2.2 zs[k] (List.getElem_mem hl)
  exact ⟨ad, zs[k], e, List.getElem?_eq_getElem hl, hc k _ (List.getElem?_eq_getElem hl), this.1, this.2⟩
theorem IntsAt.keep {w w' : World} {A : Option Addr} {n : Nat} {zs : List Int} (h : IntsAt w A n zs) (hk : ∀ ad, A = some ad → ∀ j, j < n → w'.cell? (ad.add j) = w.cell? (ad.add j)) : IntsAt w' A n zs :=
  ⟨h.1, fun hn => by
    obtain ⟨ad, e, hc⟩ := h.2.1 hn
    refine ⟨ad, e, fun j u hu => (hk ad e j ?_).trans (hc j u hu)⟩
    have := (List.getElem?_eq_some_iff.1 hu).1
    have := h.1
    omega, h.2.2⟩
theorem take_step {zs : List Int} {k : Nat} {z : Int} (h : zs[k]? = some z) : zs.take (k + 1) = zs.take k ++ [z] := by
  obtain ⟨hl, rfl⟩ := List.getElem?_eq_some_iff.1 h
  exact List.take_succ_eq_append_getElem hl

def intOf : Value → Int | .int _ q => q | _ => 0
set_option maxHeartbeats 400000 in
theorem of_any (A : Option Addr) (n c : Nat) (zs : List Int) (w : World) (hn : n ≤ 9223372036854775807) (h : IntsAt w A n zs) :
    Calls Tryd.prog 78 #[.slice A n c] w fun e w' => e = .returned (.int .u64 (Sm.ofL 0 zs : Nat)) ∧ w = w' := by
  have H := Lib.hid h
  clear h
  go_enter Tryd.func78, Tryd.ntmps78
  go_wp2
  go_loop [3, 8] (fun s i => ∃ k : Nat, k ≤ n ∧ i = .int .i64 k ∧ s = .int .u64 (Sm.ofL 0 (zs.take k) : Nat)) (fun _ i => n - (intOf i).toNat)
  case atStart => exact ⟨0, Nat.zero_le _, rfl, rfl⟩
  case round =>
    obtain ⟨k, hk, rfl, rfl⟩ := hrel
    have hb := Sm.ofL_lt (x := 0) (zs.take k) (by decide)
    by_cases hlt : k < n
    · obtain ⟨ad, z, rfl, hz, hc, h0, h1⟩ := H.out.at_ hlt
      have HS := Lib.hid (take_step hz)
      clear hz
      go_wp2_with (go_at_call 45; refine (with_any _ _ _ hb h0 h1).mono ?_; rintro e w' ⟨rfl, rfl⟩)
      go_round
      case rel => exact ⟨k + 1, by omega, by go_num, by rw [HS.out, Sm.ofL_snoc]⟩
      case measure => simp [intOf]; omega
    · go_wp2
      go_ret
      exact ⟨ret_int (by rw [List.take_of_length_le (by have := H.out.1; omega)]), rfl⟩
end Go.Proofs.YtakoceablbgchaaDoor
