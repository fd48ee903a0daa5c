/-
  Rows of courses in memory; contracts of what asks of one: over, bare, live, fits.
  Contracts of live, fits and begun.
-/
import Derived.Test.YtaonepbongbhoaaKB
import Derived.Test.YtaonepbongbhoaaKC
namespace Go.Proofs.Ytaonepbongbhoaa.Hi
open Go.RowKit
open Tx (i64p right)
def cr (c : Cr) : Nat := Fl.re_ (some (c.b, c.e))
def ci (c : Cr) : Nat := Fl.im_ (some (c.b, c.e))
/-- it ends behind its beginning. -/
def Gc (c : Cr) : Prop := c.b ≤ c.e ∧ c.e ≤ never
theorem Okc.gc {n : Nat} {c : Cr} (h : Okc n c) (hn : n ≤ 2000) : Gc c := by
  have hb := h.b
  unfold Gc
  rcases h.e with e | e <;> simp only [never] at * <;> omega
theorem Gc.spn {c : Cr} (h : Gc c) : Fl.spn (cr c) (ci c) = some (c.b, c.e) := by
  have : Fl.Good (some (c.b, c.e)) := fun b e he => by
    have he := Option.some.inj he
    injection he with h1 h2
    subst h1; subst h2
    exact h
  exact Fl.spn_of this
/-- a course as it lies: its two maps' blocks. -/
structure Co where
  rb : Nat
  wb : Nat
  c : Cr
abbrev encC : Rn.Enc Co where
  n := 4
  pos := by decide
  cells x := [.complex .f64 (cr x.c) (ci x.c), .bool x.c.com, .map (some x.rb), .map (some x.wb)]
  len _ := rfl
  one v u hu := by simp at hu; rcases hu with rfl | rfl | rfl | rfl <;> rfl
def coA (x : Co) : Array Value := #[.complex .f64 (cr x.c) (ci x.c), .bool x.c.com, .map (some x.rb), .map (some x.wb)]
theorem cour_info : (Try.prog.info? 71).map (fun i => (i.zero, i.size, i.bytes)) = some (some (.agg #[.complex .f64 0 0, .bool false, .map none, .map none]), 4, 40) := by kernel_rfl
theorem vtC : Rn.VT encC 64 71 := by
  obtain ⟨i0, hi, hz0, hz1, hz2⟩ := info_parts cour_info
  exact ⟨Try.underlying64, i0, _, hi, hz0, hz1, by rw [hz2]; decide, rfl⟩
structure AtC (w : World) (p : Addr) (x : Co) : Prop where
  c0 : w.cell? p = some (.complex .f64 (cr x.c) (ci x.c))
  c1 : w.cell? ⟨p.block, p.off + 1, none⟩ = some (.bool x.c.com)
  c2 : w.cell? ⟨p.block, p.off + 2, none⟩ = some (.map (some x.rb))
  c3 : w.cell? ⟨p.block, p.off + 3, none⟩ = some (.map (some x.wb))
theorem atC {w : World} {A : Option Addr} {X : List Co} (h : Rn.At encC w A X) {j : Nat} {x : Co} (hx : X[j]? = some x) : ∃ ad, A = some ad ∧ AtC w (ad.add (j * 4)) x := by
  obtain ⟨ad, e, hc⟩ := h.get hx
  refine ⟨ad, e, hc 0 _ rfl, ?_, ?_, ?_⟩
  · rw [← Rn.add_lit ad (j * 4) 0]; exact hc 1 _ rfl
  · rw [← Rn.add_lit ad (j * 4) 1]; exact hc 2 _ rfl
  · rw [← Rn.add_lit ad (j * 4) 2]; exact hc 3 _ rfl
/-- an event in memory. -/
abbrev encE : Rn.Enc Ev where
  n := 5
  pos := by decide
  cells e := [.int .i64 e.kd, .int .i64 e.id, .int .i64 e.x, .int .i64 e.k, .int .i64 e.n]
  len _ := rfl
  one v u hu := by simp at hu; rcases hu with rfl | rfl | rfl | rfl | rfl <;> rfl
def evA (e : Ev) : Array Value := #[.int .i64 e.kd, .int .i64 e.id, .int .i64 e.x, .int .i64 e.k, .int .i64 e.n]
theorem ev_info : (Try.prog.info? 53).map (fun i => (i.zero, i.size, i.bytes)) = some (some (.agg #[.int .i64 0, .int .i64 0, .int .i64 0, .int .i64 0, .int .i64 0]), 5, 40) := by kernel_rfl
theorem vtE : Rn.VT encE 24 53 := by
  obtain ⟨i0, hi, hz0, hz1, hz2⟩ := info_parts ev_info
  exact ⟨Try.underlying24, i0, _, hi, hz0, hz1, by rw [hz2]; decide, rfl⟩
structure AtE (w : World) (p : Addr) (e : Ev) : Prop where
  c0 : w.cell? p = some (.int .i64 e.kd)
  c1 : w.cell? ⟨p.block, p.off + 1, none⟩ = some (.int .i64 e.id)
  c2 : w.cell? ⟨p.block, p.off + 2, none⟩ = some (.int .i64 e.x)
  c3 : w.cell? ⟨p.block, p.off + 3, none⟩ = some (.int .i64 e.k)
  c4 : w.cell? ⟨p.block, p.off + 4, none⟩ = some (.int .i64 e.n)
theorem atE {w : World} {A : Option Addr} {X : List Ev} (h : Rn.At encE w A X) {j : Nat} {x : Ev} (hx : X[j]? = some x) : ∃ ad, A = some ad ∧ AtE w (ad.add (j * 5)) x := by
  obtain ⟨ad, e, hc⟩ := h.get hx
  refine ⟨ad, e, hc 0 _ rfl, ?_, ?_, ?_, ?_⟩
  · rw [← Rn.add_lit ad (j * 5) 0]; exact hc 1 _ rfl
  · rw [← Rn.add_lit ad (j * 5) 1]; exact hc 2 _ rfl
  · rw [← Rn.add_lit ad (j * 5) 2]; exact hc 3 _ rfl
  · rw [← Rn.add_lit ad (j * 5) 3]; exact hc 4 _ rfl
theorem end_c {c : Cr} (h : Gc c) (w : World) : Calls Try.prog 48 #[.complex .f64 (cr c) (ci c)] w fun e w' => e = .returned (.int .i64 (c.e : Nat)) ∧ w = w' := Cx.end_at _ _ _ w h.spn
theorem begin_c {c : Cr} (h : Gc c) (w : World) : Calls Try.prog 63 #[.complex .f64 (cr c) (ci c)] w fun e w' => e = .returned (.int .i64 (c.b : Nat)) ∧ w = w' := Cx.begin_at _ _ _ w h.spn
theorem over_eq (c : Cr) : (!((c.e : Int) == 9007199254740992)) = over c := by
  unfold over never
  rw [Bool.eq_iff_iff]; simp; omega
set_option maxHeartbeats 1000000 in
theorem over_any (x : Co) (h : Gc x.c) (w : World) : Calls Try.prog 34 #[.agg (coA x)] w fun e w' => e = .returned (.bool (over x.c)) ∧ Below w.heap.size w w' := by
  have H := Lib.hid h
  clear h
  unfold coA
  go_enter Try.func34, Try.ntmps34
  go_wp2_with fail
  refine (end_c H.out _).mono ?_
  rintro e w1 ⟨rfl, rfl⟩
  go_wp2
  go_ret
  exact ⟨Cx.ret_bool (over_eq x.c), Rn.below_new _ _⟩
theorem over_val (x : Co) {b : Bool} (h : Gc x.c) (hb : over x.c = b) (w : World) : Calls Try.prog 34 #[.agg (coA x)] w fun e w' => e = .returned (.bool b) ∧ Below w.heap.size w w' := hb ▸ over_any x h w
set_option maxHeartbeats 1000000 in
theorem bare_any (e : Ev) (w : World) : Calls Try.prog 59 #[.agg (evA e)] w fun r w' => r = .returned (.bool (bare e)) ∧ Below w.heap.size w w' := by
  unfold bare evA
  by_cases h0 : e.x = 0
  · by_cases h1 : e.k = 0
    · by_cases h2 : e.n = 0
      · rw [h0, h1, h2]
        go_enter Try.func59, Try.ntmps59
        go_wp2
        go_ret
        exact ⟨rfl, Rn.below_new _ _⟩
      · rw [h0, h1]
        go_enter Try.func59, Try.ntmps59
        go_wp2
        go_ret
        exact ⟨by simp [h2], Rn.below_new _ _⟩
    · rw [h0]
      go_enter Try.func59, Try.ntmps59
      go_wp2
      go_ret
      exact ⟨by simp [h1], Rn.below_new _ _⟩
  · go_enter Try.func59, Try.ntmps59
    go_wp2
    go_ret
    exact ⟨by simp [h0], Rn.below_new _ _⟩
theorem bare_val (e : Ev) {b : Bool} (hb : bare e = b) (w : World) : Calls Try.prog 59 #[.agg (evA e)] w fun r w' => r = .returned (.bool b) ∧ Below w.heap.size w w' := hb ▸ bare_any e w
end Go.Proofs.Ytaonepbongbhoaa.Hi
namespace Go.Proofs.Ytaonepbongbhoaa.Hi
open Go.RowKit
open Tx (i64p right)
/-- the row of courses, as far as these ask. -/
structure CsAt (w : World) (A : Option Addr) (X : List Co) : Prop where
  row : Rn.At encC w A X
  gc : ∀ x ∈ X, Gc x.c
theorem CsAt.below {w w' : World} {A : Option Addr} {X : List Co} (h : CsAt w A X) (hb : Below w.heap.size w w') : CsAt w' A X := ⟨h.row.below hb (Nat.le_refl _), h.gc⟩
def cs (X : List Co) : List Cr := X.map (·.c)
theorem cs_at {X : List Co} {j : Nat} {x : Co} (h : X[j]? = some x) : (cs X)[j]? = some x.c := by unfold cs; rw [List.getElem?_map, h]; rfl
theorem cs_len (X : List Co) : (cs X).length = X.length := by unfold cs; rw [List.length_map]
set_option maxHeartbeats 1000000 in
theorem live_any (A : Option Addr) (c : Nat) (X : List Co) (id : Int) (w : World) (h : CsAt w A X) (hl : X.length ≤ 100) :
    Calls Try.prog 60 #[.slice A X.length c, .int .i64 id] w fun r w' => r = .returned (.bool (live (cs X) id)) ∧ Below w.heap.size w w' := by
  have H := Lib.hid h
  clear h
  unfold live
  rw [cs_len]
  by_cases h1 : 1 ≤ id
  · by_cases h2 : id ≤ (X.length : Int)
    · obtain ⟨j, hj⟩ := Int.eq_ofNat_of_zero_le (show 0 ≤ id - 1 by omega)
      have hjl : j < X.length := by omega
      obtain rfl : id = (j : Int) + 1 := by omega
      have hx : X[j]? = some X[j] := List.getElem?_eq_getElem hjl
      generalize hX : X[j] = x at hx
      obtain ⟨ad, rfl, c0, c1, c2, c3⟩ := atC H.out.row hx
      have HG := Lib.hid (H.out.gc x (List.mem_of_getElem? hx))
      rw [show ((j : Int) + 1 - 1).toNat = j by omega, cs_at hx]
      clear hX hx hj
      cases ho : over x.c with
      | true =>
        have HO := Lib.hid ho
        clear ho
        go_enter Try.func60, Try.ntmps60
        go_wp2_with fail
        refine (over_val x HG.out HO.out _).mono ?_
        rintro e w1 ⟨rfl, hb⟩
        have HB := Lib.hid hb
        clear hb
        go_wp2
        go_ret
        exact ⟨by simp [liveO, HO.out], HB.out⟩
      | false =>
        have HO := Lib.hid ho
        clear ho
        go_enter Try.func60, Try.ntmps60
        go_wp2_with fail
        refine (over_val x HG.out HO.out _).mono ?_
        rintro e w1 ⟨rfl, hb⟩
        have HB := Lib.hid hb
        clear hb
        go_wp2
        go_ret
        exact ⟨by simp [liveO, HO.out, h1, h2], HB.out⟩
    · go_enter Try.func60, Try.ntmps60
      go_wp2
      go_ret
      exact ⟨Cx.ret_bool (by rw [decide_eq_false (show ¬ id ≤ (X.length : Int) by omega)]; simp), Below.refl _ _⟩
  · go_enter Try.func60, Try.ntmps60
    go_wp2
    go_ret
    exact ⟨Cx.ret_bool (by rw [decide_eq_false (show ¬ 1 ≤ id by omega)]; rfl), Below.refl _ _⟩
theorem live_val (A : Option Addr) (c : Nat) (X : List Co) (id : Int) (w : World) {b : Bool} (h : CsAt w A X) (hl : X.length ≤ 100) (hb : live (cs X) id = b) :
    Calls Try.prog 60 #[.slice A X.length c, .int .i64 id] w fun r w' => r = .returned (.bool b) ∧ Below w.heap.size w w' := hb ▸ live_any A c X id w h hl
/-- the box of an event, and all that lay there. -/
structure EB (w : World) (e : Ev) (W : World) : Prop where
  c0 : W.cell? ⟨w.heap.size, 0, none⟩ = some (.int .i64 e.kd)
  c1 : W.cell? ⟨w.heap.size, 1, none⟩ = some (.int .i64 e.id)
  c2 : W.cell? ⟨w.heap.size, 2, none⟩ = some (.int .i64 e.x)
  c3 : W.cell? ⟨w.heap.size, 3, none⟩ = some (.int .i64 e.k)
  c4 : W.cell? ⟨w.heap.size, 4, none⟩ = some (.int .i64 e.n)
  bel : Below w.heap.size w W
theorem EB.below {w W W' : World} {e : Ev} (h : EB w e W) (hb : Below W.heap.size W W') : EB w e W' :=
  ⟨(hb.cell (Rn.cell_lt h.c0)).trans h.c0, (hb.cell (Rn.cell_lt h.c1)).trans h.c1, (hb.cell (Rn.cell_lt h.c2)).trans h.c2, (hb.cell (Rn.cell_lt h.c3)).trans h.c3, (hb.cell (Rn.cell_lt h.c4)).trans h.c4, h.bel.trans (hb.mono h.bel.size)⟩
theorem EB.new (w : World) (e : Ev) : EB w e (w.alloc (.cells (evA e) 53)) := by
  have h := heap_alloc_new w (.cells (evA e) 53)
  exact ⟨cell_of_row _ _ 0 _ _ _ h, cell_of_row _ _ 1 _ _ _ h, cell_of_row _ _ 2 _ _ _ h, cell_of_row _ _ 3 _ _ _ h, cell_of_row _ _ 4 _ _ _ h, Rn.below_new _ _⟩
set_option maxRecDepth 100000 in
set_option maxHeartbeats 2000000 in
theorem fits_beg (A : Option Addr) (c : Nat) (X : List Co) (e : Ev) (w : World) (h : CsAt w A X) (hl : X.length ≤ 100) (k0 : e.kd = 0) :
    Calls Try.prog 44 #[.slice A X.length c, .agg (evA e)] w fun r w' => r = .returned (.bool (fits (cs X) e)) ∧ Below w.heap.size w w' := by
  have H := Lib.hid h
  have HE := Lib.hid (EB.new w e)
  clear h
  have hN : (X.length : Int) ≤ 100 := by omega
  unfold fits
  rw [cs_len]
  rw [if_pos k0]
  obtain ⟨kd, id, x, k, n⟩ := e
  dsimp only at k0 ⊢
  subst k0
  by_cases h1 : id = (X.length : Int) + 1
  · subst h1
    by_cases h2 : (X.length : Int) + 1 ≤ 32
    · generalize hb : bare ⟨0, (X.length : Int) + 1, x, k, n⟩ = b
      have HB := Lib.hid hb
      clear hb
      unfold evA at HE ⊢
      go_enter Try.func44, Try.ntmps44
      go_wp2_with fail
      refine (bare_val ⟨0, (X.length : Int) + 1, x, k, n⟩ HB.out _).mono ?_
      rintro r w1 ⟨rfl, hb⟩
      have HX := Lib.hid (HE.out.bel.trans (hb.mono HE.out.bel.size))
      clear hb
      go_wp2
      go_ret
      exact ⟨Cx.ret_bool (by rw [decide_eq_true h2]; simp), HX.out⟩
    · unfold evA
      go_enter Try.func44, Try.ntmps44
      go_wp2
      go_ret
      exact ⟨Cx.ret_bool (by rw [decide_eq_false (show ¬ (X.length : Int) + 1 ≤ 32 by omega)]; simp), Rn.below_new _ _⟩
  · unfold evA
    go_enter Try.func44, Try.ntmps44
    go_wp2
    go_ret
    exact ⟨Cx.ret_bool (by rw [decide_eq_false h1]; rfl), Rn.below_new _ _⟩
set_option maxRecDepth 100000 in
set_option maxHeartbeats 2000000 in
theorem fits_v1 (A : Option Addr) (c : Nat) (X : List Co) (e : Ev) (w : World) (h : CsAt w A X) (hl : X.length ≤ 100) (k0 : e.kd = 1) :
    Calls Try.prog 44 #[.slice A X.length c, .agg (evA e)] w fun r w' => r = .returned (.bool (fits (cs X) e)) ∧ Below w.heap.size w w' := by
  have H := Lib.hid h
  have HE := Lib.hid (EB.new w e)
  clear h
  have hN : (X.length : Int) ≤ 100 := by omega
  unfold fits
  rw [cs_len]
  rw [if_neg (by omega), if_pos (by omega)]
  obtain ⟨kd, id, x, k, n⟩ := e
  dsimp only at k0 ⊢
  subst k0
  cases hv : live (cs X) id with
  | true =>
    have HV := Lib.hid hv
    clear hv
    by_cases hx0 : 0 ≤ x
    · by_cases hx1 : x < 64
      · generalize hr : right k n = b
        have HR := Lib.hid hr
        clear hr
        unfold evA at HE ⊢
        go_enter Try.func44, Try.ntmps44
        go_wp2_with fail
        refine (live_val A c X id _ (H.out.below HE.out.bel) hl HV.out).mono ?_
        rintro r w1 ⟨rfl, hb⟩
        have HE1 := Lib.hid (HE.out.below hb)
        clear hb
        have c2 := HE1.out.c2
        have c3 := HE1.out.c3
        have c4 := HE1.out.c4
        dsimp only at c2 c3 c4
        go_wp2_with fail
        refine (Tx.right_val k n b _ HR.out).mono ?_
        rintro r w2 ⟨rfl, hb⟩
        have HX := Lib.hid (HE1.out.bel.trans (hb.mono HE1.out.bel.size))
        clear hb c2 c3 c4
        go_wp2
        go_ret
        exact ⟨Cx.ret_bool (by rw [decide_eq_true hx0, decide_eq_true hx1]; rfl), HX.out⟩
      · unfold evA at HE ⊢
        go_enter Try.func44, Try.ntmps44
        go_wp2_with fail
        refine (live_val A c X id _ (H.out.below HE.out.bel) hl HV.out).mono ?_
        rintro r w1 ⟨rfl, hb⟩
        have HE1 := Lib.hid (HE.out.below hb)
        clear hb
        have c2 := HE1.out.c2
        dsimp only at c2
        go_wp2
        go_ret
        exact ⟨Cx.ret_bool (by rw [decide_eq_false (show ¬ x < 64 by omega)]; simp), HE1.out.bel⟩
    · unfold evA at HE ⊢
      go_enter Try.func44, Try.ntmps44
      go_wp2_with fail
      refine (live_val A c X id _ (H.out.below HE.out.bel) hl HV.out).mono ?_
      rintro r w1 ⟨rfl, hb⟩
      have HE1 := Lib.hid (HE.out.below hb)
      clear hb
      have c2 := HE1.out.c2
      dsimp only at c2
      go_wp2
      go_ret
      exact ⟨Cx.ret_bool (by rw [decide_eq_false (show ¬ 0 ≤ x by omega)]; simp), HE1.out.bel⟩
  | false =>
    have HV := Lib.hid hv
    clear hv
    unfold evA at HE ⊢
    go_enter Try.func44, Try.ntmps44
    go_wp2_with fail
    refine (live_val A c X id _ (H.out.below HE.out.bel) hl HV.out).mono ?_
    rintro r w1 ⟨rfl, hb⟩
    have HE1 := Lib.hid (HE.out.below hb)
    clear hb
    go_wp2
    go_ret
    exact ⟨rfl, HE1.out.bel⟩
set_option maxRecDepth 100000 in
set_option maxHeartbeats 2000000 in
theorem fits_v2 (A : Option Addr) (c : Nat) (X : List Co) (e : Ev) (w : World) (h : CsAt w A X) (hl : X.length ≤ 100) (k0 : e.kd = 2) :
    Calls Try.prog 44 #[.slice A X.length c, .agg (evA e)] w fun r w' => r = .returned (.bool (fits (cs X) e)) ∧ Below w.heap.size w w' := by
  have H := Lib.hid h
  have HE := Lib.hid (EB.new w e)
  clear h
  have hN : (X.length : Int) ≤ 100 := by omega
  unfold fits
  rw [cs_len]
  rw [if_neg (by omega), if_pos (by omega)]
  obtain ⟨kd, id, x, k, n⟩ := e
  dsimp only at k0 ⊢
  subst k0
  cases hv : live (cs X) id with
  | true =>
    have HV := Lib.hid hv
    clear hv
    by_cases hx0 : 0 ≤ x
    · by_cases hx1 : x < 64
      · generalize hr : right k n = b
        have HR := Lib.hid hr
        clear hr
        unfold evA at HE ⊢
        go_enter Try.func44, Try.ntmps44
        go_wp2_with fail
        refine (live_val A c X id _ (H.out.below HE.out.bel) hl HV.out).mono ?_
        rintro r w1 ⟨rfl, hb⟩
        have HE1 := Lib.hid (HE.out.below hb)
        clear hb
        have c2 := HE1.out.c2
        have c3 := HE1.out.c3
        have c4 := HE1.out.c4
        dsimp only at c2 c3 c4
        go_wp2_with fail
        refine (Tx.right_val k n b _ HR.out).mono ?_
        rintro r w2 ⟨rfl, hb⟩
        have HX := Lib.hid (HE1.out.bel.trans (hb.mono HE1.out.bel.size))
        clear hb c2 c3 c4
        go_wp2
        go_ret
        exact ⟨Cx.ret_bool (by rw [decide_eq_true hx0, decide_eq_true hx1]; rfl), HX.out⟩
      · unfold evA at HE ⊢
        go_enter Try.func44, Try.ntmps44
        go_wp2_with fail
        refine (live_val A c X id _ (H.out.below HE.out.bel) hl HV.out).mono ?_
        rintro r w1 ⟨rfl, hb⟩
        have HE1 := Lib.hid (HE.out.below hb)
        clear hb
        have c2 := HE1.out.c2
        dsimp only at c2
        go_wp2
        go_ret
        exact ⟨Cx.ret_bool (by rw [decide_eq_false (show ¬ x < 64 by omega)]; simp), HE1.out.bel⟩
    · unfold evA at HE ⊢
      go_enter Try.func44, Try.ntmps44
      go_wp2_with fail
      refine (live_val A c X id _ (H.out.below HE.out.bel) hl HV.out).mono ?_
      rintro r w1 ⟨rfl, hb⟩
      have HE1 := Lib.hid (HE.out.below hb)
      clear hb
      have c2 := HE1.out.c2
      dsimp only at c2
      go_wp2
      go_ret
      exact ⟨Cx.ret_bool (by rw [decide_eq_false (show ¬ 0 ≤ x by omega)]; simp), HE1.out.bel⟩
  | false =>
    have HV := Lib.hid hv
    clear hv
    unfold evA at HE ⊢
    go_enter Try.func44, Try.ntmps44
    go_wp2_with fail
    refine (live_val A c X id _ (H.out.below HE.out.bel) hl HV.out).mono ?_
    rintro r w1 ⟨rfl, hb⟩
    have HE1 := Lib.hid (HE.out.below hb)
    clear hb
    go_wp2
    go_ret
    exact ⟨rfl, HE1.out.bel⟩
set_option maxRecDepth 100000 in
set_option maxHeartbeats 2000000 in
theorem fits_e3 (A : Option Addr) (c : Nat) (X : List Co) (e : Ev) (w : World) (h : CsAt w A X) (hl : X.length ≤ 100) (k0 : e.kd = 3) :
    Calls Try.prog 44 #[.slice A X.length c, .agg (evA e)] w fun r w' => r = .returned (.bool (fits (cs X) e)) ∧ Below w.heap.size w w' := by
  have H := Lib.hid h
  have HE := Lib.hid (EB.new w e)
  clear h
  have hN : (X.length : Int) ≤ 100 := by omega
  unfold fits
  rw [cs_len]
  rw [if_neg (by omega), if_neg (by omega), if_pos (by omega)]
  obtain ⟨kd, id, x, k, n⟩ := e
  dsimp only at k0 ⊢
  subst k0
  cases hv : live (cs X) id with
  | true =>
    have HV := Lib.hid hv
    clear hv
    generalize hb : bare ⟨3, id, x, k, n⟩ = b
    have HB := Lib.hid hb
    clear hb
    unfold evA at HE ⊢
    go_enter Try.func44, Try.ntmps44
    go_wp2_with fail
    refine (live_val A c X id _ (H.out.below HE.out.bel) hl HV.out).mono ?_
    rintro r w1 ⟨rfl, hb⟩
    have HE1 := Lib.hid (HE.out.below hb)
    clear hb
    have c0 := HE1.out.c0
    have c1 := HE1.out.c1
    have c2 := HE1.out.c2
    have c3 := HE1.out.c3
    have c4 := HE1.out.c4
    dsimp only at c0 c1 c2 c3 c4
    go_wp2_with fail
    refine (bare_val ⟨3, id, x, k, n⟩ HB.out _).mono ?_
    rintro r w2 ⟨rfl, hb⟩
    have HX := Lib.hid (HE1.out.bel.trans (hb.mono HE1.out.bel.size))
    clear hb c0 c1 c2 c3 c4
    go_wp2
    go_ret
    exact ⟨rfl, HX.out⟩
  | false =>
    have HV := Lib.hid hv
    clear hv
    unfold evA at HE ⊢
    go_enter Try.func44, Try.ntmps44
    go_wp2_with fail
    refine (live_val A c X id _ (H.out.below HE.out.bel) hl HV.out).mono ?_
    rintro r w1 ⟨rfl, hb⟩
    have HE1 := Lib.hid (HE.out.below hb)
    clear hb
    go_wp2
    go_ret
    exact ⟨rfl, HE1.out.bel⟩
set_option maxRecDepth 100000 in
set_option maxHeartbeats 2000000 in
theorem fits_e4 (A : Option Addr) (c : Nat) (X : List Co) (e : Ev) (w : World) (h : CsAt w A X) (hl : X.length ≤ 100) (k0 : e.kd = 4) :
    Calls Try.prog 44 #[.slice A X.length c, .agg (evA e)] w fun r w' => r = .returned (.bool (fits (cs X) e)) ∧ Below w.heap.size w w' := by
  have H := Lib.hid h
  have HE := Lib.hid (EB.new w e)
  clear h
  have hN : (X.length : Int) ≤ 100 := by omega
  unfold fits
  rw [cs_len]
  rw [if_neg (by omega), if_neg (by omega), if_pos (by omega)]
  obtain ⟨kd, id, x, k, n⟩ := e
  dsimp only at k0 ⊢
  subst k0
  cases hv : live (cs X) id with
  | true =>
    have HV := Lib.hid hv
    clear hv
    generalize hb : bare ⟨4, id, x, k, n⟩ = b
    have HB := Lib.hid hb
    clear hb
    unfold evA at HE ⊢
    go_enter Try.func44, Try.ntmps44
    go_wp2_with fail
    refine (live_val A c X id _ (H.out.below HE.out.bel) hl HV.out).mono ?_
    rintro r w1 ⟨rfl, hb⟩
    have HE1 := Lib.hid (HE.out.below hb)
    clear hb
    have c0 := HE1.out.c0
    have c1 := HE1.out.c1
    have c2 := HE1.out.c2
    have c3 := HE1.out.c3
    have c4 := HE1.out.c4
    dsimp only at c0 c1 c2 c3 c4
    go_wp2_with fail
    refine (bare_val ⟨4, id, x, k, n⟩ HB.out _).mono ?_
    rintro r w2 ⟨rfl, hb⟩
    have HX := Lib.hid (HE1.out.bel.trans (hb.mono HE1.out.bel.size))
    clear hb c0 c1 c2 c3 c4
    go_wp2
    go_ret
    exact ⟨rfl, HX.out⟩
  | false =>
    have HV := Lib.hid hv
    clear hv
    unfold evA at HE ⊢
    go_enter Try.func44, Try.ntmps44
    go_wp2_with fail
    refine (live_val A c X id _ (H.out.below HE.out.bel) hl HV.out).mono ?_
    rintro r w1 ⟨rfl, hb⟩
    have HE1 := Lib.hid (HE.out.below hb)
    clear hb
    go_wp2
    go_ret
    exact ⟨rfl, HE1.out.bel⟩
set_option maxRecDepth 100000 in
set_option maxHeartbeats 2000000 in
theorem fits_o (A : Option Addr) (c : Nat) (X : List Co) (e : Ev) (w : World) (h : CsAt w A X) (hl : X.length ≤ 100) (k0 : e.kd ≠ 0 ∧ e.kd ≠ 1 ∧ e.kd ≠ 2 ∧ e.kd ≠ 3 ∧ e.kd ≠ 4) :
    Calls Try.prog 44 #[.slice A X.length c, .agg (evA e)] w fun r w' => r = .returned (.bool (fits (cs X) e)) ∧ Below w.heap.size w w' := by
  have H := Lib.hid h
  have HE := Lib.hid (EB.new w e)
  clear h
  have hN : (X.length : Int) ≤ 100 := by omega
  unfold fits
  rw [cs_len]
  obtain ⟨k0, k1, k2, k3, k4⟩ := k0
  rw [if_neg k0, if_neg (by omega), if_neg (by omega)]
  unfold evA
  go_enter Try.func44, Try.ntmps44
  go_wp2
  go_ret
  exact ⟨rfl, Rn.below_new _ _⟩
theorem fits_any (A : Option Addr) (c : Nat) (X : List Co) (e : Ev) (w : World) (h : CsAt w A X) (hl : X.length ≤ 100) :
    Calls Try.prog 44 #[.slice A X.length c, .agg (evA e)] w fun r w' => r = .returned (.bool (fits (cs X) e)) ∧ Below w.heap.size w w' := by
  by_cases k0 : e.kd = 0
  · exact fits_beg A c X e w h hl k0
  by_cases k1 : e.kd = 1
  · exact fits_v1 A c X e w h hl k1
  by_cases k2 : e.kd = 2
  · exact fits_v2 A c X e w h hl k2
  by_cases k3 : e.kd = 3
  · exact fits_e3 A c X e w h hl k3
  by_cases k4 : e.kd = 4
  · exact fits_e4 A c X e w h hl k4
  exact fits_o A c X e w h hl ⟨k0, k1, k2, k3, k4⟩
theorem fits_val (A : Option Addr) (c : Nat) (X : List Co) (e : Ev) (w : World) {b : Bool} (h : CsAt w A X) (hl : X.length ≤ 100) (hb : fits (cs X) e = b) :
    Calls Try.prog 44 #[.slice A X.length c, .agg (evA e)] w fun r w' => r = .returned (.bool b) ∧ Below w.heap.size w w' := hb ▸ fits_any A c X e w h hl
end Go.Proofs.Ytaonepbongbhoaa.Hi
