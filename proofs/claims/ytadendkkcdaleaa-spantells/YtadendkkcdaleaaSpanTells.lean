/-
  The walk of SpanTells: for any two pairs of whole numbers, and any third, it answers true; nothing that was there is changed.
-/
import Derived.Test.YtadendkkcdaleaaSpanSame
import Derived.Deep.RegionWith
import Derived.Deep.RegionHeld3
import Derived.Deep.DrawnRows
import Derived.Deep.CutRange
import Derived.Deep.DeepCutAuto
namespace Go.Proofs.Ytadendkkcdaleaa
open Go.RowKit Fl
attribute [local go_sem ↓] Go.wp_at_zero Go.wp_at_succ
theorem cell_alloc_lt {V : World} {o : Obj} {p : Addr} (h : p.block < V.heap.size) : (V.alloc o).cell? p = V.cell? p := (below1 V o).cell h
theorem cell_drew {V : World} {p : Addr} : V.drew.cell? p = V.cell? p := rfl
theorem below_drew {B : Nat} {a w : World} (h : Below B a w) : Below B a w.drew := ⟨h.os, h.tape, h.output, h.size, h.block⟩
/-- both arguments, as they lie. -/
abbrev HS (w : World) (a b c d : Int) (w' : World) : Prop := w'.cell? ⟨w.heap.size, 0, none⟩ = some (.int .i64 a) ∧ w'.cell? ⟨w.heap.size, 1, none⟩ = some (.int .i64 b) ∧ w'.cell? ⟨w.heap.size + 1, 0, none⟩ = some (.int .i64 c) ∧ w'.cell? ⟨w.heap.size + 1, 1, none⟩ = some (.int .i64 d) ∧ w.heap.size + 2 ≤ w'.heap.size ∧ Below w.heap.size w w'
/-- the document's two spans, as they lie. -/
abbrev At2 (w : World) (g1 g2 : Nat) (s t : Sp) (w' : World) : Prop :=
  w'.cell? ⟨g1, 0, none⟩ = some (.int .i64 (bg s : Nat)) ∧ w'.cell? ⟨g1, 1, none⟩ = some (.int .i64 (en s : Nat)) ∧ w'.cell? ⟨g1, 2, none⟩ = some (.bool s.isSome) ∧
  w'.cell? ⟨g2, 0, none⟩ = some (.int .i64 (bg t : Nat)) ∧ w'.cell? ⟨g2, 1, none⟩ = some (.int .i64 (en t : Nat)) ∧ w'.cell? ⟨g2, 2, none⟩ = some (.bool t.isSome) ∧
  g1 < w'.heap.size ∧ g2 < w'.heap.size ∧ Below w.heap.size w w'
theorem at2_drew {w w' : World} {g1 g2 : Nat} {s t : Sp} (h : At2 w g1 g2 s t w') : At2 w g1 g2 s t w'.drew := by
  obtain ⟨h1, h2, h3, h4, h5, h6, h7, h8, h9⟩ := h
  exact ⟨h1, h2, h3, h4, h5, h6, h7, h8, below_drew h9⟩
theorem at2_below {w V w' : World} {g1 g2 : Nat} {s t : Sp} (hb : Below V.heap.size V w') (h : At2 w g1 g2 s t V) : At2 w g1 g2 s t w' := by
  obtain ⟨h1, h2, h3, h4, h5, h6, h7, h8, h9⟩ := h
  have hs := hb.size
  refine ⟨?_, ?_, ?_, ?_, ?_, ?_, by omega, by omega, h9.trans (hb.mono h9.size)⟩
  · rw [hb.cell (show g1 < _ from h7)]; exact h1
  · rw [hb.cell (show g1 < _ from h7)]; exact h2
  · rw [hb.cell (show g1 < _ from h7)]; exact h3
  · rw [hb.cell (show g2 < _ from h8)]; exact h4
  · rw [hb.cell (show g2 < _ from h8)]; exact h5
  · rw [hb.cell (show g2 < _ from h8)]; exact h6
theorem cells_at {w : World} {g : Nat} {o : Sp} (h : w.heap[g]? = some (.cells #[.int .i64 (bg o : Nat), .int .i64 (en o : Nat), .bool o.isSome] 29)) :
    w.cell? ⟨g, 0, none⟩ = some (.int .i64 (bg o : Nat)) ∧ w.cell? ⟨g, 1, none⟩ = some (.int .i64 (en o : Nat)) ∧ w.cell? ⟨g, 2, none⟩ = some (.bool o.isSome) ∧ g < w.heap.size := by
  have hlt : g < w.heap.size := (Array.getElem?_eq_some_iff.1 h).1
  refine ⟨?_, ?_, ?_, hlt⟩ <;> simp [World.cell?, h]
theorem at2_mk {w w' : World} {g1 g2 : Nat} {s t : Sp} (h1 : w'.heap[g1]? = some (.cells #[.int .i64 (bg s : Nat), .int .i64 (en s : Nat), .bool s.isSome] 29)) (h2 : w'.heap[g2]? = some (.cells #[.int .i64 (bg t : Nat), .int .i64 (en t : Nat), .bool t.isSome] 29)) (h3 : Below w.heap.size w w') : At2 w g1 g2 s t w' := by
  obtain ⟨a, b, c, d⟩ := cells_at h1
  obtain ⟨a', b', c', d'⟩ := cells_at h2
  exact ⟨a, b, c, a', b', c', d, d', h3⟩
theorem rbefore_below (s t : Sp) (w : World) :
    Calls Try.prog 16 #[rv s, rv t] w fun en w' => en = .returned (.bool (bf s t)) ∧ Below w.heap.size w w' :=
  (rbefore_any s t w).mono fun _ _ ⟨h1, h2⟩ => ⟨h1, h2 ▸ below2 _ _ _⟩
theorem put0 (W : World) (A B C D : Obj) : ((((W.alloc A).alloc B).alloc C).alloc D).drew.heap[W.heap.size]? = some A := by
  show ((((W.alloc A).alloc B).alloc C).alloc D).heap[W.heap.size]? = some A
  rw [Below.heap_alloc _ _ _ (by simp; omega), Below.heap_alloc _ _ _ (by simp; omega), Below.heap_alloc _ _ _ (by simp), heap_alloc_new]
theorem put1 (W : World) (A B C D : Obj) : ((((W.alloc A).alloc B).alloc C).alloc D).drew.heap[W.heap.size + 1]? = some B := by
  show ((((W.alloc A).alloc B).alloc C).alloc D).heap[W.heap.size + 1]? = some B
  rw [Below.heap_alloc _ _ _ (by simp), Below.heap_alloc _ _ _ (by simp), heap2]
theorem put2 (W : World) (A B C D : Obj) : ((((W.alloc A).alloc B).alloc C).alloc D).drew.heap[W.heap.size + 1 + 1]? = some C := heap34 W A B C D
theorem put3 (W : World) (A B C D : Obj) : ((((W.alloc A).alloc B).alloc C).alloc D).drew.heap[W.heap.size + 1 + 1 + 1]? = some D := by
  have h := heap_alloc_new (((W.alloc A).alloc B).alloc C) D
  have e : (((W.alloc A).alloc B).alloc C).heap.size = W.heap.size + 1 + 1 + 1 := by simp
  rw [e] at h
  exact h
theorem below4d {w W : World} (h : Below w.heap.size w W) (A B C D : Obj) : Below w.heap.size w ((((W.alloc A).alloc B).alloc C).alloc D).drew := by
  have h1 := h.alloc h.size A
  have h2 := h1.alloc h1.size B
  have h3 := h2.alloc h2.size C
  exact below_drew (h3.alloc h3.size D)
theorem minus1 : spn 13830554455654793216 4617315517961601024 = none := by
  have : prt 13830554455654793216 = none := by
    cases e : prt 13830554455654793216 with
    | none => rfl
    | some n =>
      have h := (whole_iff 13830554455654793216).1 (by rw [e]; rfl)
      exact absurd h.1 (by decide +kernel)
  unfold spn; rw [this]
theorem half5 : spn 4602678819172646912 4617315517961601024 = none := by
  have : prt 4602678819172646912 = none := by
    cases e : prt 4602678819172646912 with
    | none => rfl
    | some n =>
      have h := (whole_iff 4602678819172646912).1 (by rw [e]; rfl)
      exact absurd h.2.2 (by decide +kernel)
  unfold spn; rw [this]
set_option maxHeartbeats 4000000 in
set_option maxRecDepth 100000 in
theorem tells (a b c d k : Int) (s t : Sp) (w : World) (H1 : Hid (mk a b = s)) (H2 : Hid (mk c d = t)) (G1 : Hid (Fl.Good s)) (G2 : Hid (Fl.Good t)) :
    Calls Try.prog 3 #[.agg #[.int .i64 a, .int .i64 b], .agg #[.int .i64 c, .int .i64 d], .int .i64 k] w fun e w' => e = .returned (.bool true) ∧ Below w.heap.size w w' := by
  go_enter Try.func3, Try.ntmps3
  go_wp2_with fail
  refine (alive_any _).mono ?_
  rintro e w' ⟨rfl, rfl⟩
  go_wp2_with fail
  refine (two_at _ _ _ _ H1.out).mono ?_
  rintro e w' ⟨rfl, rfl⟩
  unfold ans
  go_wp2_with fail
  refine (two_at _ _ _ _ H2.out).mono ?_
  rintro e w' ⟨rfl, rfl⟩
  unfold ans
  go_wp2
  have hS : HS w a b c d ((((w.alloc (.cells #[.int .i64 a, .int .i64 b] 23)).alloc (.cells #[.int .i64 c, .int .i64 d] 23)).alloc (.cells #[.int .i64 a, .int .i64 b] 23)).alloc (.cells #[.int .i64 c, .int .i64 d] 23)) := by
    refine ⟨?_, ?_, ?_, ?_, ?_, below4 _ _ _ _ _⟩ <;> go_simp
  generalize ((((w.alloc (.cells #[.int .i64 a, .int .i64 b] 23)).alloc (.cells #[.int .i64 c, .int .i64 d] 23)).alloc (.cells #[.int .i64 a, .int .i64 b] 23)).alloc (.cells #[.int .i64 c, .int .i64 d] 23)) = W at *
  obtain ⟨c0, c1, c2, c3, hsz, hbW⟩ := hS
  have hbW := Lib.hid hbW
  go_cut [11, 12] from 29 to 38 (fun u v wx => ∃ g1 g2 : Nat, u = .pointer (some ⟨g1, 0, none⟩) ∧ v = .pointer (some ⟨g2, 0, none⟩) ∧ At2 w g1 g2 s t wx)
  case first =>
    go_region_held3 (fun w' => w'.cell? ⟨w.heap.size, 0, none⟩ = some (.int .i64 a) ∧ w'.cell? ⟨w.heap.size, 1, none⟩ = some (.int .i64 b) ∧ w'.cell? ⟨w.heap.size + 1, 0, none⟩ = some (.int .i64 c) ∧ w'.cell? ⟨w.heap.size + 1, 1, none⟩ = some (.int .i64 d)) (simp (disch := (simp; omega)) only [cell_drew, cell_alloc_lt, c0, c1, c2, c3, and_self])
      (first | (go_at_call_of 11 a; refine (rof_at _ _ _ _ H1.out).mono ?_; rintro e w' ⟨rfl, rfl⟩; unfold rv rc) | (go_at_call_of 11 c; refine (rof_at _ _ _ _ H2.out).mono ?_; rintro e w' ⟨rfl, rfl⟩; unfold rv rc))
    all_goals (go_wp2_with fail; go_meet)
    all_goals (refine ⟨_, _, rfl, rfl, at2_mk ?_ ?_ (below4d hbW.out _ _ _ _)⟩ <;> first | exact put0 _ _ _ _ _ | exact put1 _ _ _ _ _ | exact put2 _ _ _ _ _ | exact put3 _ _ _ _ _)
  case rest =>
    obtain ⟨g1, g2, rfl, rfl, hA⟩ := hcut
    clear c0 c1 c2 c3 hsz hbW
    have HA := Lib.hid hA
    obtain ⟨e1, e2, e3, e4, e5, e6, _, _, _⟩ := hA
    go_wp2_with fail
    refine (same_any s _ G1.out).mono ?_
    rintro e w1 ⟨rfl, hb1⟩
    have hA1 := at2_below hb1 HA.out
    have HA1 := Lib.hid hA1
    clear e1 e2 e3 e4 e5 e6 hb1
    obtain ⟨e1, e2, e3, e4, e5, e6, _, _, _⟩ := hA1
    go_wp2_with fail
    refine (same_any t _ G2.out).mono ?_
    rintro e w2 ⟨rfl, hb2⟩
    have HA2 := Lib.hid (at2_below hb2 HA1.out)
    clear e1 e2 e3 e4 e5 e6 hb2 HA1 HA
    go_upto_if 52 with (fail)
    go_cut [7] (fun x wx => ∃ xr xi : Nat, x = .complex .f64 xr xi ∧ Hid (spn xr xi = s) ∧ w2 = wx)
    case first =>
      cases s with
      | none =>
        go_wp2_with fail
        go_meet
        exact ⟨_, _, rfl, Lib.hid minus1, rfl⟩
      | some p =>
        have hp := spn_ans G1.out
        go_wp2_with fail
        go_meet
        exact ⟨_, _, rfl, Lib.hid hp, rfl⟩
    case rest =>
      obtain ⟨xr, xi, rfl, X, rfl⟩ := hcut
      go_upto_if 54 with (fail)
      go_cut [9] (fun y wx => ∃ yr yi : Nat, y = .complex .f64 yr yi ∧ Hid (spn yr yi = t) ∧ w2 = wx)
      case first =>
        cases t with
        | none =>
          go_wp2_with fail
          go_meet
          exact ⟨_, _, rfl, Lib.hid half5, rfl⟩
        | some q =>
          have hq := spn_ans G2.out
          go_wp2_with fail
          go_meet
          exact ⟨_, _, rfl, Lib.hid hq, rfl⟩
      case rest =>
        obtain ⟨yr, yi, rfl, Y, rfl⟩ := hcut
        go_wp2_with fail
        refine (join_at _ _ _ _ _ _ _ X.out Y.out).mono ?_
        rintro e w' ⟨rfl, rfl⟩
        unfold ans
        go_wp2_with fail
        refine (move_at _ _ _ _ _ X.out).mono ?_
        rintro e w' ⟨rfl, rfl⟩
        unfold ans
        go_wp2_with fail
        have GJ := Lib.hid (jn_good G1.out G2.out)
        have GM := Lib.hid (mv_good s k)
        go_region_held3 (fun w' => w'.cell? ⟨g1, 0, none⟩ = some (.int .i64 (bg s : Nat)) ∧ w'.cell? ⟨g1, 1, none⟩ = some (.int .i64 (en s : Nat)) ∧ w'.cell? ⟨g1, 2, none⟩ = some (.bool s.isSome) ∧
          w'.cell? ⟨g2, 0, none⟩ = some (.int .i64 (bg t : Nat)) ∧ w'.cell? ⟨g2, 1, none⟩ = some (.int .i64 (en t : Nat)) ∧ w'.cell? ⟨g2, 2, none⟩ = some (.bool t.isSome) ∧
          g1 < w'.heap.size ∧ g2 < w'.heap.size ∧ Below w.heap.size w w')
          (first | exact at2_drew HA2.out | assumption | (refine at2_below (by assumption) ?_; assumption))
          (first
            | (go_at_call 15; refine (before_at _ _ _ _ _ _ _ X.out Y.out).mono ?_; rintro e w' ⟨rfl, rfl⟩)
            | (go_at_call 16; refine (rbefore_below s t _).mono ?_; rintro e w3 ⟨rfl, hb3⟩)
            | (go_at_call 17; refine (meet_at _ _ _ _ _ _ _ X.out Y.out).mono ?_; rintro e w' ⟨rfl, rfl⟩)
            | (go_at_call 18; refine (rmeet_any s t _).mono ?_; rintro e w4 ⟨rfl, hb4⟩)
            | (go_at_call 19; refine (rjoin_any s t _ G1.out G2.out).mono ?_; rintro e w5 ⟨rfl, hb5⟩)
            | (go_at_call_of 12 (jn s t); refine (same_any (jn s t) _ GJ.out).mono ?_; rintro e w6 ⟨rfl, hb6⟩)
            | (go_at_call 20; refine (rmove_any s k _ G1.out).mono ?_; rintro e w7 ⟨rfl, hb7⟩)
            | (go_at_call_of 12 (mv s k); refine (same_any (mv s k) _ GM.out).mono ?_; rintro e w8 ⟨rfl, hb8⟩))
        have hf : At2 w g1 g2 s t w8 := by assumption
        go_wp2
        go_ret
        exact ⟨rfl, hf.2.2.2.2.2.2.2.2⟩
theorem spanTells_walk (a b c d k : Int) (w : World) :
    Calls Try.prog 3 #[.agg #[.int .i64 a, .int .i64 b], .agg #[.int .i64 c, .int .i64 d], .int .i64 k] w fun e w' => e = .returned (.bool true) ∧ Below w.heap.size w w' :=
  tells a b c d k _ _ w (Lib.hid rfl) (Lib.hid rfl) (Lib.hid (mk_good a b)) (Lib.hid (mk_good c d))
end Go.Proofs.Ytadendkkcdaleaa
