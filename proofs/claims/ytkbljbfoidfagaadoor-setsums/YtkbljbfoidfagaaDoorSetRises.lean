/-
  The walk of SetRises: for every set it answers true; nothing that was there is changed.
-/
import Derived.Test.YtkbljbfoidfagaaDoorSetAlive
import Derived.Deep.QuietTactic
import Derived.BigQuiet
import Derived.WalkSmall
namespace Go.Proofs.YtkbljbfoidfagaaDoor
open Go.RowKit
theorem items_get {x k n : Nat} (h : (Sm.items x)[k]? = some n) : n < 64 ∧ x.testBit n = true := Sm.items_mem.1 (List.mem_of_getElem? h)
theorem items_up {x k n m : Nat} (h : (Sm.items x)[k]? = some n) (h' : (Sm.items x)[k + 1]? = some m) : n < m := by
  have := Sm.items_rise x
  rw [List.pairwise_iff_getElem] at this
  obtain ⟨h1, e1⟩ := List.getElem?_eq_some_iff.1 h
  obtain ⟨h2, e2⟩ := List.getElem?_eq_some_iff.1 h'
  have := this k (k + 1) h1 h2 (by omega)
  omega
/-- the row of a set's numbers, at its places. -/
theorem own_at {w : World} {base : Nat} {A : Option Addr} {n c : Nat} {l : List Nat} (h : w.ownsRow base 3 1 (.slice A n c) n (vals l)) {k : Nat} (hk : k < n) :
    ∃ g z, A = some ⟨g, 0, none⟩ ∧ l[k]? = some z ∧ w.cell? ⟨g, k, none⟩ = some (.int .i64 (z : Nat)) := by
  have hlen : l.length = n := by have := h.1; simpa [vals] using this
  obtain ⟨g, cap, hv, _, hlt⟩ := h.form (by omega)
  have hA : A = some ⟨g, 0, none⟩ := by injection hv
  subst hA
  have hl : k < l.length := by omega
  refine ⟨g, l[k], rfl, List.getElem?_eq_getElem hl, ?_⟩
  have := h.cells (g := g) rfl k (.int .i64 (l[k] : Nat)) (by simp [vals, List.getElem?_eq_getElem hl])
  have e : (⟨g, 0, none⟩ : Addr).add k = ⟨g, k, none⟩ := by
    unfold Addr.add
    split
    · rename_i hk0
      rw [hk0]
    · simp
  rwa [e] at this
theorem own_shape {w : World} {base : Nat} {v : Value} {n : Nat} {l : List Nat} (h : w.ownsRow base 3 1 v n (vals l)) : ∃ A c, v = .slice A n c := by
  rcases h.2 with ⟨rfl, rfl⟩ | ⟨g, cap, cur, rfl, _⟩
  · exact ⟨none, 0, rfl⟩
  · exact ⟨_, _, rfl⟩
theorem has_yes (x k : Nat) (w : World) (hx : x < 18446744073709551616) (hk : k < 64) (h : x.testBit k = true) :
    Calls Tryd.prog 9 #[.int .u64 x, .int .i64 (k : Nat)] w fun e w' => e = .returned (.bool true) ∧ w = w' := by
  have := has_any x (k : Nat) w hx (by omega) (by omega)
  rw [Sm.has_nat k hx, h] at this
  exact this
theorem quiet_left {P : Program} {f : FuncId} {args : Array Value} {w : World} {n : Nat} {v : Value}
    (h : Calls P f args (w.drewN n) fun e w' => e = .returned v ∧ w.drewN n = w') : Calls P f args (w.drewN n) fun e w' => e = .returned v ∧ ∃ m, w' = w.drewN m :=
  Calls.quiet_of_same (h.mono fun _ _ hh => ⟨hh.1, hh.2.symm⟩)
set_option maxHeartbeats 1000000 in
set_option maxRecDepth 100000 in
theorem setRises_any (x : Nat) (w : World) (hx : x < 18446744073709551616) (hT : TabAt w) :
    Calls Tryd.prog 6 #[.int .u64 x] w fun e w' => e = .returned (.bool true) ∧ Below w.heap.size w w' := by
  have HT := Lib.hid hT
  clear hT
  go_enter Tryd.func6, Tryd.ntmps6
  go_wp2_with fail
  refine (alive_any _ HT.out).mono ?_
  rintro e w1 ⟨rfl, hb1⟩
  have HT1 := Lib.hid (HT.out.below hb1 HT.out.lt)
  go_wp2_with fail
  refine (items_any _ _ hx HT1.out).mono ?_
  rintro e w2 ⟨v, rfl, hown, hb2⟩
  have HT2 := Lib.hid (HT1.out.below hb2 HT1.out.lt)
  have hb : Below w.heap.size w w2 := hb1.trans (hb2.mono hb1.size)
  obtain ⟨A, c, rfl⟩ := own_shape hown
  have HO := Lib.hid hown
  have hlen := Sm.items_len x
  clear hown hb1 hb2
  go_wp2
  go_loop [12] (fun s => ∃ k : Nat, k ≤ (Sm.items x).length ∧ s = .int .i64 k) (fun s => (Sm.items x).length - (intOf s).toNat)
  case atStart => exact ⟨0, by omega, rfl⟩
  case round =>
    obtain ⟨k, hk, rfl⟩ := hrel
    by_cases hlt : k < (Sm.items x).length
    · obtain ⟨g, z, rfl, hz, hc⟩ := own_at HO.out hlt
      obtain ⟨hz1, hz2⟩ := items_get hz
      have HZ := Lib.hid hz2
      have HZ0 := Lib.hid hz
      clear hz2 hz
      match k with
      | 0 =>
        go_wp2_with (go_at_call 9; refine (has_yes _ _ _ hx hz1 HZ.out).mono ?_; rintro e w' ⟨rfl, rfl⟩)
        go_round
        case rel => exact ⟨1, by omega, rfl⟩
        case measure => simp [intOf]; omega
      | k + 1 =>
        obtain ⟨g', z', hg', hz', hc'⟩ := own_at HO.out (k := k) (by omega)
        injection hg' with hg'
        injection hg' with hg' _
        subst hg'
        have hup := items_up hz' HZ0.out
        obtain ⟨hz1', _⟩ := items_get hz'
        have hd : decide ((z : Int) ≤ (z' : Int)) = false := by simp; omega
        clear hz'
        go_wp2_with (go_at_call 9; refine (has_yes _ _ _ hx hz1 HZ.out).mono ?_; rintro e w' ⟨rfl, rfl⟩)
        go_round
        case rel => exact ⟨k + 2, by omega, by go_num⟩
        case measure => simp [intOf]; omega
    · by_cases h0 : x = 0
      · subst h0
        have hl0 : (((Sm.items 0).length : Int) == 0) = true := by rw [Sm.items_zero]; rfl
        go_wp2_with (go_at_call 18; refine (first_zero _).mono ?_; rintro e w' ⟨rfl, rfl⟩)
        go_ret
        exact ⟨rfl, hb⟩
      · obtain ⟨hf1, hf2, hf3⟩ := Sm.first_spec h0 hx
        have hcons := Sm.items_cons hx hf1 hf2 hf3
        have hpos : 0 < (Sm.items x).length := by rw [hcons]; simp
        obtain ⟨g, z, rfl, hz, hc⟩ := own_at HO.out hpos
        have hze : z = Sm.first x := by
          rw [hcons] at hz
          simpa using hz.symm
        subst hze
        have hl0 : (((Sm.items x).length : Int) == 0) = false := by simp; intro h; rw [h] at hpos; simp at hpos
        clear hcons hz hf2 hf3
        go_wp2
        go_quiet ((go_at_call 18; exact quiet_left (first_any _ _ hx h0 (by exact HT2.out))))
        go_wp2
        go_ret
        exact ⟨rfl, below_drewN hb _⟩
end Go.Proofs.YtkbljbfoidfagaaDoor
