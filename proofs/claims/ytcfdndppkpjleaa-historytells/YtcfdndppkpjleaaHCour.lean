/-
  Rows of courses in memory; contracts of what asks of one: over, bare, live, fits.
-/
import Derived.Test.YtcfdndppkpjleaaHMap
import Derived.Test.YtcfdndppkpjleaaHSp
import Derived.Test.YtcfdndppkpjleaaTxnRows
import Derived.Test.YtcfdndppkpjleaaAnyZ
namespace Go.Proofs.Ytcfdndppkpjleaa.Hi
open Go.RowKit
open Tx (i64p right)
def cr (c : Cr) : Nat := Fl.re_ (some (c.b, c.e))
def ci (c : Cr) : Nat := Fl.im_ (some (c.b, c.e))
/-- it ends behind its beginning. -/
def Gc (c : Cr) : Prop := c.b ≤ c.e ∧ c.e ≤ never
theorem Okc.gc {n : Nat} {c : Cr} (h : Okc n c) (hn : n ≤ 2000) : Gc c := by
  have hb := h.b
  unfold Gc
  rcases h.e with e | e <;> simp only [never] at * <;> omega
theorem Gc.spn {c : Cr} (h : Gc c) : Fl.spn (cr c) (ci c) = some (c.b, c.e) := by
  have : Fl.Good (some (c.b, c.e)) := fun b e he => by
    have he := Option.some.inj he
    injection he with h1 h2
    subst h1; subst h2
    exact h
  exact Fl.spn_of this
/-- a course as it lies: its two maps' blocks. -/
structure Co where
  rb : Nat
  wb : Nat
  c : Cr
abbrev encC : Rn.Enc Co where
  n := 4
  pos := by decide
  cells x := [.complex .f64 (cr x.c) (ci x.c), .bool x.c.com, .map (some x.rb), .map (some x.wb)]
  len _ := rfl
  one v u hu := by simp at hu; rcases hu with rfl | rfl | rfl | rfl <;> rfl
def coA (x : Co) : Array Value := #[.complex .f64 (cr x.c) (ci x.c), .bool x.c.com, .map (some x.rb), .map (some x.wb)]
theorem cour_info : (Try.prog.info? 82).map (fun i => (i.zero, i.size, i.bytes)) = some (some (.agg #[.complex .f64 0 0, .bool false, .map none, .map none]), 4, 40) := by kernel_rfl
theorem vtC : Rn.VT encC 71 82 := by
  obtain ⟨i0, hi, hz0, hz1, hz2⟩ := info_parts cour_info
  exact ⟨Try.underlying71, i0, _, hi, hz0, hz1, by rw [hz2]; decide, rfl⟩
structure AtC (w : World) (p : Addr) (x : Co) : Prop where
  c0 : w.cell? p = some (.complex .f64 (cr x.c) (ci x.c))
  c1 : w.cell? ⟨p.block, p.off + 1, none⟩ = some (.bool x.c.com)
  c2 : w.cell? ⟨p.block, p.off + 2, none⟩ = some (.map (some x.rb))
  c3 : w.cell? ⟨p.block, p.off + 3, none⟩ = some (.map (some x.wb))
theorem atC {w : World} {A : Option Addr} {X : List Co} (h : Rn.At encC w A X) {j : Nat} {x : Co} (hx : X[j]? = some x) : ∃ ad, A = some ad ∧ AtC w (ad.add (j * 4)) x := by
  obtain ⟨ad, e, hc⟩ := h.get hx
  refine ⟨ad, e, hc 0 _ rfl, ?_, ?_, ?_⟩
  · rw [← Rn.add_lit ad (j * 4) 0]; exact hc 1 _ rfl
  · rw [← Rn.add_lit ad (j * 4) 1]; exact hc 2 _ rfl
  · rw [← Rn.add_lit ad (j * 4) 2]; exact hc 3 _ rfl
/-- an event in memory. -/
abbrev encE : Rn.Enc Ev where
  n := 5
  pos := by decide
  cells e := [.int .i64 e.kd, .int .i64 e.id, .int .i64 e.x, .int .i64 e.k, .int .i64 e.n]
  len _ := rfl
  one v u hu := by simp at hu; rcases hu with rfl | rfl | rfl | rfl | rfl <;> rfl
def evA (e : Ev) : Array Value := #[.int .i64 e.kd, .int .i64 e.id, .int .i64 e.x, .int .i64 e.k, .int .i64 e.n]
theorem ev_info : (Try.prog.info? 64).map (fun i => (i.zero, i.size, i.bytes)) = some (some (.agg #[.int .i64 0, .int .i64 0, .int .i64 0, .int .i64 0, .int .i64 0]), 5, 40) := by kernel_rfl
theorem vtE : Rn.VT encE 24 64 := by
  obtain ⟨i0, hi, hz0, hz1, hz2⟩ := info_parts ev_info
  exact ⟨Try.underlying24, i0, _, hi, hz0, hz1, by rw [hz2]; decide, rfl⟩
structure AtE (w : World) (p : Addr) (e : Ev) : Prop where
  c0 : w.cell? p = some (.int .i64 e.kd)
  c1 : w.cell? ⟨p.block, p.off + 1, none⟩ = some (.int .i64 e.id)
  c2 : w.cell? ⟨p.block, p.off + 2, none⟩ = some (.int .i64 e.x)
  c3 : w.cell? ⟨p.block, p.off + 3, none⟩ = some (.int .i64 e.k)
  c4 : w.cell? ⟨p.block, p.off + 4, none⟩ = some (.int .i64 e.n)
theorem atE {w : World} {A : Option Addr} {X : List Ev} (h : Rn.At encE w A X) {j : Nat} {x : Ev} (hx : X[j]? = some x) : ∃ ad, A = some ad ∧ AtE w (ad.add (j * 5)) x := by
  obtain ⟨ad, e, hc⟩ := h.get hx
  refine ⟨ad, e, hc 0 _ rfl, ?_, ?_, ?_, ?_⟩
  · rw [← Rn.add_lit ad (j * 5) 0]; exact hc 1 _ rfl
  · rw [← Rn.add_lit ad (j * 5) 1]; exact hc 2 _ rfl
  · rw [← Rn.add_lit ad (j * 5) 2]; exact hc 3 _ rfl
  · rw [← Rn.add_lit ad (j * 5) 3]; exact hc 4 _ rfl
theorem end_c {c : Cr} (h : Gc c) (w : World) : Calls Try.prog 23 #[.complex .f64 (cr c) (ci c)] w fun e w' => e = .returned (.int .i64 (c.e : Nat)) ∧ w = w' := Cx.end_at _ _ _ w h.spn
theorem begin_c {c : Cr} (h : Gc c) (w : World) : Calls Try.prog 22 #[.complex .f64 (cr c) (ci c)] w fun e w' => e = .returned (.int .i64 (c.b : Nat)) ∧ w = w' := Cx.begin_at _ _ _ w h.spn
theorem over_eq (c : Cr) : (!((c.e : Int) == 9007199254740992)) = over c := by
  unfold over never
  rw [Bool.eq_iff_iff]; simp; omega
set_option maxHeartbeats 1000000 in
theorem over_any (x : Co) (h : Gc x.c) (w : World) : Calls Try.prog 34 #[.agg (coA x)] w fun e w' => e = .returned (.bool (over x.c)) ∧ Below w.heap.size w w' := by
  have H := Lib.hid h
  clear h
  unfold coA
  go_enter Try.func34, Try.ntmps34
  go_wp2_with fail
  refine (end_c H.out _).mono ?_
  rintro e w1 ⟨rfl, rfl⟩
  go_wp2
  go_ret
  exact ⟨Cx.ret_bool (over_eq x.c), Rn.below_new _ _⟩
theorem over_val (x : Co) {b : Bool} (h : Gc x.c) (hb : over x.c = b) (w : World) : Calls Try.prog 34 #[.agg (coA x)] w fun e w' => e = .returned (.bool b) ∧ Below w.heap.size w w' := hb ▸ over_any x h w
set_option maxHeartbeats 1000000 in
theorem bare_any (e : Ev) (w : World) : Calls Try.prog 65 #[.agg (evA e)] w fun r w' => r = .returned (.bool (bare e)) ∧ Below w.heap.size w w' := by
  unfold bare evA
  by_cases h0 : e.x = 0
  · by_cases h1 : e.k = 0
    · by_cases h2 : e.n = 0
      · rw [h0, h1, h2]
        go_enter Try.func65, Try.ntmps65
        go_wp2
        go_ret
        exact ⟨rfl, Rn.below_new _ _⟩
      · rw [h0, h1]
        go_enter Try.func65, Try.ntmps65
        go_wp2
        go_ret
        exact ⟨by simp [h2], Rn.below_new _ _⟩
    · rw [h0]
      go_enter Try.func65, Try.ntmps65
      go_wp2
      go_ret
      exact ⟨by simp [h1], Rn.below_new _ _⟩
  · go_enter Try.func65, Try.ntmps65
    go_wp2
    go_ret
    exact ⟨by simp [h0], Rn.below_new _ _⟩
theorem bare_val (e : Ev) {b : Bool} (hb : bare e = b) (w : World) : Calls Try.prog 65 #[.agg (evA e)] w fun r w' => r = .returned (.bool b) ∧ Below w.heap.size w w' := hb ▸ bare_any e w
end Go.Proofs.Ytcfdndppkpjleaa.Hi
