/-
  What is told of a row of whole numbers; nothing of the program.
-/
import Derived.Test.YtjciikdhjgekgaaDoorSetWalks
import Derived.Below
import Derived.Laws.OwnMore
import Derived.LoopTactic
namespace Go.Proofs.YtjciikdhjgekgaaDoor
open Go.RowKit
def i64s (z : Int) : Prop := -9223372036854775808 ≤ z ∧ z ≤ 9223372036854775807
/-- a slice reads as these numbers. -/
def IntsAt (w : World) (A : Option Addr) (n : Nat) (zs : List Int) : Prop :=
  zs.length = n ∧ (0 < n → ∃ ad, A = some ad ∧ ∀ j z, zs[j]? = some z → w.cell? (ad.add j) = some (.int .i64 z)) ∧ ∀ z ∈ zs, i64s z
theorem IntsAt.at_ {w : World} {A : Option Addr} {n k : Nat} {zs : List Int} (h : IntsAt w A n zs) (hk : k < n) :
    ∃ ad z, A = some ad ∧ zs[k]? = some z ∧ w.cell? (ad.add k) = some (.int .i64 z) ∧ -9223372036854775808 ≤ z ∧ z ≤ 9223372036854775807 := by
  obtain ⟨ad, e, hc⟩ := h.2.1 (by omega)
  have hl : k < zs.length := by have := h.1; omega
  have := h.2.2 zs[k] (List.getElem_mem hl)
  exact ⟨ad, zs[k], e, List.getElem?_eq_getElem hl, hc k _ (List.getElem?_eq_getElem hl), this.1, this.2⟩
theorem IntsAt.keep {w w' : World} {A : Option Addr} {n : Nat} {zs : List Int} (h : IntsAt w A n zs) (hk : ∀ ad, A = some ad → ∀ j, j < n → w'.cell? (ad.add j) = w.cell? (ad.add j)) : IntsAt w' A n zs :=
  ⟨h.1, fun hn => by
    obtain ⟨ad, e, hc⟩ := h.2.1 hn
    refine ⟨ad, e, fun j u hu => (hk ad e j ?_).trans (hc j u hu)⟩
    have := (List.getElem?_eq_some_iff.1 hu).1
    have := h.1
    omega, h.2.2⟩
theorem take_step {zs : List Int} {k : Nat} {z : Int} (h : zs[k]? = some z) : zs.take (k + 1) = zs.take k ++ [z] := by
  obtain ⟨hl, rfl⟩ := List.getElem?_eq_some_iff.1 h
  exact List.take_succ_eq_append_getElem hl

def intOf : Value → Int | .int _ q => q | _ => 0
end Go.Proofs.YtjciikdhjgekgaaDoor
