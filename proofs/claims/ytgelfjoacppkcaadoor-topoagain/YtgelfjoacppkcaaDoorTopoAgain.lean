/-
  The walk of TopoAgain.
-/
import Derived.Test.YtgelfjoacppkcaaDoorTopoEdges
namespace Go.Proofs.YtgelfjoacppkcaaDoor
open Go.RowKit
attribute [local go_sem ↓] Go.wp_at_zero Go.wp_at_succ
theorem insert_ok' {m : Mm.Gr} {o : Od.O} {a b : Int} {r : Mm.Gr × Od.O × Bool} (hm : Mm.Ok m) (h : Od.insert m o a b = r) : Mm.Ok r.1 := h ▸ Od.insert_ok a b hm
theorem insert_sorted' {m : Mm.Gr} {o : Od.O} {a b : Int} {r : Mm.Gr × Od.O × Bool} (hs : Od.Sorted m o) (h : Od.insert m o a b = r) : Od.Sorted r.1 r.2.1 := h ▸ Od.insert_sorted a b hs
theorem grow_next {es : Nat → Int × Int} {k : Nat} {r : Mm.Gr × Od.O × Bool} (h : Od.insert (growTo es k).1 (growTo es k).2 (es k).1 (es k).2 = r) : growTo es (k + 1) = (r.1, r.2.1) := by rw [growTo, h]
theorem edge_box {W W' : World} (a b : Int) (hb : Below (W.alloc (.cells #[.int .i64 a, .int .i64 b] 28)).heap.size (W.alloc (.cells #[.int .i64 a, .int .i64 b] 28)) W') :
    W'.cell? ⟨W.heap.size, 0, none⟩ = some (.int .i64 a) ∧ W'.cell? ⟨W.heap.size, 1, none⟩ = some (.int .i64 b) := by
  have h : W'.heap[W.heap.size]? = some (.cells #[.int .i64 a, .int .i64 b] 28 (0, 0)) := (hb.block _ (by simp)).trans (heap_alloc_new _ _)
  exact ⟨by rw [cell_of_row _ _ _ _ _ _ h]; rfl, by rw [cell_of_row _ _ _ _ _ _ h]; rfl⟩
theorem edge_info : (Tryd.prog.info? 28).map (fun i => (i.zero, i.size, i.bytes)) = some (some (.agg #[.int .i64 0, .int .i64 0]), 2, 16) := by kernel_rfl
/-- a row of edges as cells. -/
def evals (l : List (Int × Int)) : List Value := l.flatMap fun p => [Value.int .i64 p.1, Value.int .i64 p.2]
theorem evals_snoc (l : List (Int × Int)) (p : Int × Int) : evals (l ++ [p]) = evals l ++ [Value.int .i64 p.1, Value.int .i64 p.2] := by simp [evals]
theorem evals_get {l : List (Int × Int)} {i : Nat} (h : i < l.length) : (evals l)[i * 2]? = some (.int .i64 l[i].1) ∧ (evals l)[i * 2 + 1]? = some (.int .i64 l[i].2) := by
  induction l generalizing i with
  | nil => simp at h
  | cons p l ih =>
    have e : evals (p :: l) = Value.int .i64 p.1 :: Value.int .i64 p.2 :: evals l := rfl
    rw [e]
    cases i with
    | zero => exact ⟨rfl, rfl⟩
    | succ i =>
      have := ih (i := i) (by simpa using h)
      have e2 : (i + 1) * 2 = i * 2 + 1 + 1 := by omega
      rw [e2]
      simpa using this
def Own2 (w : World) (base : Nat) (v : Value) (l : List (Int × Int)) : Prop := w.ownsRow base 28 2 v l.length (evals l)
theorem Own2.below {w w' : World} {base B : Nat} {v : Value} {l : List (Int × Int)} (h : Own2 w base v l) (hb : Below B w w') (hB : w.heap.size ≤ B) : Own2 w' base v l := by
  refine ⟨h.1, ?_⟩
  rcases h.2 with hn | ⟨g, cap, cur, hv, hbase, hg, rest⟩
  · exact .inl hn
  · have : g < w.heap.size := (Array.getElem?_eq_some_iff.1 hg).1
    exact .inr ⟨g, cap, cur, hv, hbase, (hb.block g (by omega)).trans hg, rest⟩
theorem Own2.setRow {w : World} {base k : Nat} {v : Value} {l : List (Int × Int)} (h : Own2 w base v l) (cs : Array Value) (hk : k < base) : Own2 (w.setRow k cs) base v l := by
  refine ⟨h.1, ?_⟩
  rcases h.2 with hn | ⟨g, cap, cur, hv, hbase, hg, rest⟩
  · exact .inl hn
  · exact .inr ⟨g, cap, cur, hv, hbase, (setRow_other _ _ _ _ (by omega)).trans hg, rest⟩
theorem Own2.shape {w : World} {base : Nat} {v : Value} {l : List (Int × Int)} (h : Own2 w base v l) : ∃ A c, v = .slice A l.length c ∧ l.length ≤ c ∧ c ≤ 9223372036854775807 := by
  rcases h.2 with ⟨rfl, h0⟩ | ⟨g, cap, cur, rfl, _, _, h1, h2, _⟩
  · exact ⟨none, 0, by rw [h0], by omega, by omega⟩
  · unfold maxLen at h2
    exact ⟨_, _, rfl, h1, by omega⟩
/-- all edges of a row are there. -/
def HadOk (l : List (Int × Int)) (m : Mm.Gr) : Prop := ∀ p, p ∈ l → ∃ x y : Nat, x < 32 ∧ y < 32 ∧ p = ((x : Int), (y : Int)) ∧ Mm.E m x y
theorem ins_mono {m : Mm.Gr} {o : Od.O} {a b : Int} {r : Mm.Gr × Od.O × Bool} (h : Od.insert m o a b = r) {i j : Nat} (he : Mm.E m i j) : Mm.E r.1 i j := by
  subst h
  exact Od.insert_cases m o a b (fun r => Mm.E r.1 i j) (fun _ => he) (fun x y _ _ hx hy _ _ _ => (Mm.put_E hx hy i j).2 (.inl he)) (fun _ _ _ _ _ _ _ _ _ _ => he) (fun x y _ _ hx hy _ _ _ _ => (Mm.put_E hx hy i j).2 (.inl he))
theorem ins_edge {m : Mm.Gr} {o : Od.O} {a b : Int} {X : Mm.Gr} {Q : Od.O} (h : Od.insert m o a b = (X, Q, true)) : ∃ x y : Nat, x < 32 ∧ y < 32 ∧ (a, b) = ((x : Int), (y : Int)) ∧ Mm.E X x y := by
  have key : (Od.insert m o a b).2.2 = true → ∃ x y : Nat, x < 32 ∧ y < 32 ∧ (a, b) = ((x : Int), (y : Int)) ∧ Mm.E (Od.insert m o a b).1 x y :=
    Od.insert_cases m o a b (fun r => r.2.2 = true → ∃ x y : Nat, x < 32 ∧ y < 32 ∧ (a, b) = ((x : Int), (y : Int)) ∧ Mm.E r.1 x y) (fun _ h => by cases h)
      (fun x y hx hy hx32 hy32 _ _ _ _ => ⟨x, y, hx32, hy32, by rw [hx, hy], (Mm.put_E hx32 hy32 x y).2 (.inr ⟨rfl, rfl⟩)⟩) (fun _ _ _ _ _ _ _ _ _ _ h => by cases h)
      (fun x y hx hy hx32 hy32 _ _ _ _ _ => ⟨x, y, hx32, hy32, by rw [hx, hy], (Mm.put_E hx32 hy32 x y).2 (.inr ⟨rfl, rfl⟩)⟩)
  rw [h] at key
  exact key rfl
theorem ins_false {m : Mm.Gr} {o : Od.O} {a b : Int} {X : Mm.Gr} {Q : Od.O} (h : Od.insert m o a b = (X, Q, false)) : X = m ∧ Q = o := by
  have key : (Od.insert m o a b).2.2 = false → (Od.insert m o a b).1 = m ∧ (Od.insert m o a b).2.1 = o :=
    Od.insert_cases m o a b (fun r => r.2.2 = false → r.1 = m ∧ r.2.1 = o) (fun _ _ => ⟨rfl, rfl⟩) (fun _ _ _ _ _ _ _ _ _ h => by cases h) (fun _ _ _ _ _ _ _ _ _ _ _ => ⟨rfl, rfl⟩) (fun _ _ _ _ _ _ _ _ _ _ h => by cases h)
  rw [h] at key
  exact key rfl
theorem put_same {m : Mm.Gr} {x y : Nat} (he : Mm.E m x y) : sameM (Mm.put m x y) m = true := by
  rw [sameM_iff]
  intro i hi
  unfold Mm.put
  split
  · rename_i e
    subst e
    apply Sm.ext; intro j
    rw [Mm.add_same he.2.1]
    by_cases e : j = y
    · subst e; rw [he.2.2]; rfl
    · simp [e]
  · rfl
theorem tmod_nat (x L : Nat) : Int.tmod (x : Int) (L : Int) = ((x % L : Nat) : Int) := by
  rw [Int.tmod_eq_emod_of_nonneg (by omega)]; rfl
/-- the loop's variables. -/
structure AgSt (w : World) (a base : Nat) (M : Mm.Gr) (O : Od.O) (v : Value) (l : List (Int × Int)) (W : World) : Prop where
  gr : MatAt W a M 32
  od : OrdAt W (a + 1) O 34
  own : Own2 W base v l
  bel : Below w.heap.size w W
theorem AgSt.below {w W W' : World} {a base : Nat} {M : Mm.Gr} {O : Od.O} {v : Value} {l : List (Int × Int)} (s : AgSt w a base M O v l W) (hb : Below W.heap.size W W') : AgSt w a base M O v l W' := ⟨s.gr.below hb, s.od.below hb, s.own.below hb (Nat.le_refl _), s.bel.trans (hb.mono s.bel.size)⟩
/-- and the new values beside them. -/
structure Ag4 (w : World) (a base c : Nat) (X : Mm.Gr) (Q : Od.O) (v : Value) (l : List (Int × Int)) (W : World) : Prop where
  x : MatAt W c X 32
  q : OrdAt W (c + 1) Q 34
  m5 : ∃ M, MatAt W a M 32
  o6 : ∃ O, OrdAt W (a + 1) O 34
  own : Own2 W base v l
  bel : Below w.heap.size w W
  wa : w.heap.size ≤ a
  ab : a + 1 < base
  ac : a + 1 < c
theorem Ag4.below {w W W' : World} {a base c : Nat} {X : Mm.Gr} {Q : Od.O} {v : Value} {l : List (Int × Int)} (s : Ag4 w a base c X Q v l W) (hb : Below W.heap.size W W') : Ag4 w a base c X Q v l W' :=
  ⟨s.x.below hb, s.q.below hb, s.m5.imp fun _ h => h.below hb, s.o6.imp fun _ h => h.below hb, s.own.below hb (Nat.le_refl _), s.bel.trans (hb.mono s.bel.size), s.wa, s.ab, s.ac⟩
theorem Ag4.setM {w W : World} {a base c : Nat} {X : Mm.Gr} {Q : Od.O} {v : Value} {l : List (Int × Int)} (s : Ag4 w a base c X Q v l W) : Ag4 w a base c X Q v l (W.setRow a (matA X)) ∧ MatAt (W.setRow a (matA X)) a X 32 := by
  have h0 := s.wa
  have h1 := s.ab
  have h2 := s.ac
  obtain ⟨M, hM⟩ := s.m5
  exact ⟨⟨s.x.setRow _ (by omega), s.q.setRow _ (by omega), ⟨_, matAt_put hM⟩, s.o6.imp fun _ h => h.setRow _ (by omega), s.own.setRow _ (by omega), setRow_below s.bel h0, h0, h1, h2⟩, matAt_put hM⟩
theorem Ag4.setO {w W : World} {a base c : Nat} {X : Mm.Gr} {Q : Od.O} {v : Value} {l : List (Int × Int)} (s : Ag4 w a base c X Q v l W) : Ag4 w a base c X Q v l (W.setRow (a + 1) (ordA Q)) ∧ OrdAt (W.setRow (a + 1) (ordA Q)) (a + 1) Q 34 := by
  have h0 := s.wa
  have h1 := s.ab
  have h2 := s.ac
  obtain ⟨O, hO⟩ := s.o6
  exact ⟨⟨s.x.setRow _ (by omega), s.q.setRow _ (by omega), s.m5.imp fun _ h => h.setRow _ (by omega), ⟨_, ordAt_put hO⟩, s.own.setRow _ (by omega), setRow_below s.bel (by omega), h0, h1, h2⟩, ordAt_put hO⟩
def AgRel (w : World) (a base : Nat) (es : Nat → Int × Int) (n : Nat) (h i : Value) (wr : World) : Prop :=
  ∃ (k : Nat) (v : Value) (l : List (Int × Int)), v = h ∧ k ≤ n ∧ i = .int .i64 k ∧ AgSt w a base (growTo es k).1 (growTo es k).2 v l wr ∧ HadOk l (growTo es k).1 ∧ (l = [] → growTo es k = (zeroM, Od.newO)) ∧ l.length ≤ k ∧ base ≤ wr.heap.size
theorem grown_ordA {W W' : World} {row : Option Nat} {g t : Nat} {q : Od.O} (h : OrdAt W g q t) (hg : W.grownBy W' row) (hne : some g ≠ row) : OrdAt W' g q t := (hg.block g h.lt hne).trans h
theorem base_le {W : World} {c b r : Nat} {Q : Od.O} {t : Nat} (h : OrdAt W (c + 1) Q t) (h1 : r < c) (h2 : b ≤ r) : b ≤ W.heap.size := by have := h.lt; omega
theorem grown_matAt {W W' : World} {row : Option Nat} {g t : Nat} {m : Mm.Gr} (h : MatAt W g m t) (hg : W.grownBy W' row) (hne : some g ≠ row) : MatAt W' g m t := (hg.block g h.lt hne).trans h
/-- behind the last Insert. -/
structure FSt (w : World) (a c gb : Nat) (M X : Mm.Gr) (O : Od.O) (x y : Nat) (W : World) : Prop where
  gr : MatAt W a M 32
  od : OrdAt W (a + 1) O 34
  nx : MatAt W c X 32
  nq : OrdAt W (c + 1) O 34
  c0 : W.cell? ⟨gb, 0, none⟩ = some (.int .i64 (x : Nat))
  c1 : W.cell? ⟨gb, 1, none⟩ = some (.int .i64 (y : Nat))
  bel : Below w.heap.size w W
theorem FSt.below {w W W' : World} {a c gb x y : Nat} {M X : Mm.Gr} {O : Od.O} (s : FSt w a c gb M X O x y W) (hb : Below W.heap.size W W') : FSt w a c gb M X O x y W' := ⟨s.gr.below hb, s.od.below hb, s.nx.below hb, s.nq.below hb, cell_keep s.c0 hb, cell_keep s.c1 hb, s.bel.trans (hb.mono s.bel.size)⟩
set_option maxHeartbeats 8000000 in
set_option maxRecDepth 100000 in
theorem topoAgain_few (A : Option Addr) (n c : Nat) (es : Nat → Int × Int) (t : Nat) (w : World) (hE : EdgesAt w A n c es) (ht : t < 256) (hn : n ≤ 80) (hT : TabAt w) :
    Calls Tryd.prog 8 #[.slice A n c, .int .u8 (t : Nat)] w fun e w' => e = .returned (.bool true) ∧ Below w.heap.size w w' := by
  obtain ⟨i0, hi, hz0, hz1, hz2⟩ := info_parts edge_info
  have HE := Lib.hid hE
  have HT := Lib.hid hT
  clear hE hT
  go_enter Tryd.func8, Tryd.ntmps8
  go_wp2_with fail
  refine (alive_any _ HT.out).mono ?_
  rintro e w1 ⟨rfl, hb1⟩
  go_wp2_with fail
  refine (new_any _).mono ?_
  rintro e w2 ⟨rfl, hb2⟩
  have HB2 := Lib.hid (hb1.trans (hb2.mono hb1.size))
  have hwa := HB2.out.size
  clear hb1 hb2
  go_wp2_with (refine wpList_let2 rfl rfl 32 34 (.tmp 5) (.tmp 22) (.tmp 6) (.tmp 23) rfl rfl rfl rfl w2 zeroM Od.newO rfl rfl (by rw [zero_row]; rfl) rfl rfl rfl rfl mat_info ord_info ?_; intro wx hM hO hB)
  have HA0 := Lib.hid (show AgSt w w2.heap.size wx.heap.size zeroM Od.newO (.slice none 0 0) [] wx from ⟨hM, hO, World.ownsRow_nil _ _ _ _, HB2.out.trans (hB.mono HB2.out.size)⟩)
  have hab : w2.heap.size + 1 < wx.heap.size := hO.lt
  clear hM hO hB
  go_loopw [7, 26] (AgRel w w2.heap.size wx.heap.size es n) (fun _ i _ => 80 - (intOf i).toNat)
  case atStart => exact ⟨0, _, [], rfl, by omega, rfl, HA0.out, (fun p hp => by simp at hp), (fun _ => rfl), by simp, Nat.le_refl _⟩
  case round =>
    obtain ⟨k, v, l, rfl, hk, rfl, hS, hH, hN, hL, hBs⟩ := hrel
    have HSr := Lib.hid hS
    have HHr := Lib.hid hH
    have HNr := Lib.hid hN
    clear hS hH hN HA0
    by_cases hlt : k < n
    · obtain ⟨ad, rfl, hcs⟩ := HE.out.2.2 (by omega)
      obtain ⟨d0, d1, r0, r1⟩ := hcs k hlt
      have e0 := (HSr.out.bel.cell (cell_lt d0)).trans d0
      have e1 := (HSr.out.bel.cell (cell_lt d1)).trans d1
      have e2 := edge_second e1
      have HR0 := Lib.hid r0
      have HR1 := Lib.hid r1
      have HOk := Lib.hid (grow_ok es k)
      have HSt := Lib.hid (grow_sorted es k)
      clear hcs d0 d1 e1 r0 r1
      go_wp2_with (first
        | (refine wpList_load_row rfl 32 (.tmp 5) rfl w2.heap.size rfl 32 (matA (growTo es k).1) (0, 0) _ (HSr.out.below (below_new _ _)).gr Tryd.underlying32 rfl (matInfo _) ?_)
        | (refine wpList_load_row rfl 34 (.tmp 6) rfl (w2.heap.size + 1) rfl 34 (ordA (growTo es k).2) (0, 0) _ (HSr.out.below (below_new _ _)).od Tryd.underlying34 rfl (ordInfo _) ?_))
      obtain ⟨r, hr⟩ : ∃ r, Od.insert (growTo es k).1 (growTo es k).2 (es k).1 (es k).2 = r := ⟨_, rfl⟩
      have HGw := Lib.hid (grow_next hr)
      have HMo := Lib.hid (fun i j (he : Mm.E (growTo es k).1 i j) => ins_mono hr he)
      refine (insert_val _ _ _ _ _ _ HOk.out HSt.out.1.ok HR0.out HR1.out (tab_keep HT.out (HSr.out.below (below_new _ _)).bel) hr).mono ?_
      have HIns := Lib.hid hr
      clear hr
      obtain ⟨X, Q, is⟩ := r
      rintro e w5 ⟨rfl, hb5⟩
      obtain ⟨f0, f1⟩ := edge_box (es k).1 (es k).2 hb5
      have HF0 := Lib.hid f0
      have HF1 := Lib.hid f1
      have HS5 := Lib.hid ((HSr.out.below (below_new _ _)).below hb5)
      have hac : w2.heap.size + 1 < w5.heap.size := HS5.out.od.lt
      have hr5 : wr.heap.size < w5.heap.size := by have := hb5.size; simp at this; omega
      have hlo := fun g (hg : v.ownBlock = some g) => World.ownsRow.lt HSr.out.own g hg
      have HLo := Lib.hid hlo
      clear hb5 e0 e2 f0 f1 hlo HSr
      generalize hk0 : (es k).1 = ka at *
      generalize hk1 : (es k).2 = kb at *
      have HKa := Lib.hid hk0
      have HKb := Lib.hid hk1
      clear hk0 hk1
      cases is
      · obtain ⟨hX, hQ⟩ := ins_false HIns.out
        have HXM := Lib.hid hX
        have HQO := Lib.hid hQ
        clear hX hQ
        go_wp2_with (refine wpList_let2 rfl rfl 32 34 (.tmp 10) (.tmp 38) (.tmp 11) (.tmp 39) rfl rfl rfl rfl w5 X Q rfl rfl rfl rfl rfl rfl rfl mat_info ord_info ?_; intro wz hM hO hB; have H4 := Lib.hid (show Ag4 w w2.heap.size wx.heap.size w5.heap.size X Q v l wz from ⟨hM, hO, ⟨_, HS5.out.gr.below hB⟩, ⟨_, HS5.out.od.below hB⟩, HS5.out.own.below hB (Nat.le_refl _), (HS5.out.below hB).bel, hwa, hab, hac⟩); clear hM hO hB)
        refine wp_region_noPanic ?_
        refine region_start (S := Ag4 w w2.heap.size wx.heap.size w5.heap.size X Q v l) 4 rfl (by kernel_rfl) (H4.out.below (below_drew _)) (fun hHeld => ?_)
        refine take_at 0 46 (.agg (matA X)) rfl rfl (by kernel_rfl) (by kernel_rfl) (by kernel_rfl) (fun _ _ _ h => h) (yields_row (by rfl) 32 (.tmp 10) rfl (w5.heap.size) rfl 32 (matA X) (fun W h => h.x) Tryd.underlying32 (matInfo _)) hHeld ?_
        simp only [put_laws]
        refine take_at 1 47 (.agg (ordA Q)) rfl rfl (by kernel_rfl) (by kernel_rfl) (by kernel_rfl) (fun _ _ _ h => h) (yields_row (by rfl) 34 (.tmp 11) rfl (w5.heap.size + 1) rfl 34 (ordA Q) (fun W h => h.q) Tryd.underlying34 (ordInfo _)) hHeld ?_
        simp only [put_laws]
        refine wpAnyH_ready (rs := [2]) (by kernel_rfl) (by simp) ?_
        refine AllReadyH.cons rfl (fun K hK => ?_) AllReadyH.nil
        obtain ⟨old, hold⟩ := hHeld.m5
        refine step_store_row (by rfl) 32 (.tmp 5) (.tmp 46) (by rfl) (w2.heap.size) (matA X) (by rfl) (by rfl) 32 _ hold (matInfo _) (by rw [matA_size, matA_size]) (matA_one _) ?_
        clear hold
        obtain ⟨hHeld, hG⟩ := hHeld.setM
        refine hK.out _ _ hHeld (fun hHeld => ?_)
        clear hK K
        refine wpAnyH_ready (rs := [3]) (by kernel_rfl) (by simp) ?_
        refine AllReadyH.cons rfl (fun K hK => ?_) AllReadyH.nil
        obtain ⟨old, hold⟩ := hHeld.o6
        refine step_store_row (by rfl) 34 (.tmp 6) (.tmp 47) (by rfl) (w2.heap.size + 1) (ordA Q) (by rfl) (by rfl) 34 _ hold (ordInfo _) (by rw [ordA_size, ordA_size]) (ordA_one _) ?_
        clear hold
        have hG := hG.setRow (k := w2.heap.size + 1) (ordA Q) (by omega)
        obtain ⟨hHeld, hO⟩ := hHeld.setO
        refine hK.out _ _ hHeld (fun hHeld => ?_)
        clear hK K
        refine wpAnyH_done (by kernel_rfl) ?_ _
        refine NoPanic.normal ?_
        have hZs := base_le hHeld.q hr5 hBs
        have HZ := Lib.hid (show AgSt w w2.heap.size wx.heap.size X Q v l _ from ⟨hG, hO, hHeld.own, hHeld.bel⟩)
        clear hG hO hHeld H4
        go_wp2
        refine ⟨⟨k + 1, v, l, rfl, by omega, by go_num, ?_, ?_, ?_, by omega, hZs⟩, by simp [intOf]; omega⟩
        · rw [HGw.out]; exact HZ.out
        · rw [HGw.out]
          intro p hp
          obtain ⟨x, y, h1, h2, h3, h4⟩ := HHr.out p hp
          exact ⟨x, y, h1, h2, h3, HMo.out x y h4⟩
        · intro hl
          rw [HGw.out]
          have := HNr.out hl
          rw [HXM.out, HQO.out, this]
      · have HEd := Lib.hid (ins_edge HIns.out)
        go_wp2_with (first
          | (refine wpList_let2 rfl rfl 32 34 (.tmp 10) (.tmp 38) (.tmp 11) (.tmp 39) rfl rfl rfl rfl w5 X Q rfl rfl rfl rfl rfl rfl rfl mat_info ord_info ?_; intro wz hM hO hB; have H5 := Lib.hid (show Ag4 w w2.heap.size wx.heap.size w5.heap.size X Q v l wz from ⟨hM, hO, ⟨_, HS5.out.gr.below hB⟩, ⟨_, HS5.out.od.below hB⟩, HS5.out.own.below hB (Nat.le_refl _), (HS5.out.below hB).bel, hwa, hab, hac⟩); have g0 := cell_keep HF0.out hB; have g1 := cell_keep HF1.out hB; have hzs := hB.size; clear hM hO hB)
          | (at_builtin; refine wpList_append_own _ rfl _ _ 51 rfl wx.heap.size 28 i0 (.agg #[.int .i64 0, .int .i64 0]) 2 16 Tryd.underlying51 hi hz0 hz1 hz2 rfl (by decide) _ _ _ rfl (World.ownsRow.alloc H5.out.own _) ⟨wz.heap.size, 0, none⟩ 1 1 [.int .i64 ka, .int .i64 kb] rfl rfl ?c1 ?c2 ?c3 ?c4 ?c5 ?_))
        case c1 =>
          intro j u hj
          match j, hj with
          | 0, hj => simp at hj; subst hj; simp [Addr.add]
          | 1, hj => simp at hj; subst hj; simp [Addr.add]
        case c2 =>
          intro u hu
          simp at hu
          rcases hu with rfl | rfl <;> rfl
        case c3 => unfold maxLen; omega
        case c4 => omega
        case c5 => simp; omega
        intro v' wq hown hgrow _
        have hnot : ∀ g, g < wx.heap.size ∨ wr.heap.size ≤ g → some g ≠ v.ownBlock := fun g hg e => by
          have := HLo.out g e.symm
          omega
        have H4 := Lib.hid (show Ag4 w w2.heap.size wx.heap.size w5.heap.size X Q v' (l ++ [(ka, kb)]) wq from
          ⟨grown_matAt (H5.out.x.alloc _) hgrow (hnot _ (by omega)), grown_ordA (H5.out.q.alloc _) hgrow (hnot _ (by omega)), H5.out.m5.imp fun _ h => grown_matAt (h.alloc _) hgrow (hnot _ (by omega)), H5.out.o6.imp fun _ h => grown_ordA (h.alloc _) hgrow (hnot _ (by omega)),
            (by unfold Own2; rw [evals_snoc, List.length_append]; exact hown), (H5.out.bel.alloc H5.out.bel.size _).grown hgrow (by have := H5.out.bel.size; simp; omega) (fun g hg => by have := HLo.out g hg; omega), hwa, hab, hac⟩)
        clear hown hgrow hnot H5 g0 g1 hzs
        go_wp2_with fail
        refine wp_region_noPanic ?_
        refine region_start (S := Ag4 w w2.heap.size wx.heap.size w5.heap.size X Q v' (l ++ [(ka, kb)])) 4 rfl (by kernel_rfl) (H4.out.below (below_drew _)) (fun hHeld => ?_)
        refine take_at 0 46 (.agg (matA X)) rfl rfl (by kernel_rfl) (by kernel_rfl) (by kernel_rfl) (fun _ _ _ h => h) (yields_row (by rfl) 32 (.tmp 10) rfl (w5.heap.size) rfl 32 (matA X) (fun W h => h.x) Tryd.underlying32 (matInfo _)) hHeld ?_
        simp only [put_laws]
        refine take_at 1 47 (.agg (ordA Q)) rfl rfl (by kernel_rfl) (by kernel_rfl) (by kernel_rfl) (fun _ _ _ h => h) (yields_row (by rfl) 34 (.tmp 11) rfl (w5.heap.size + 1) rfl 34 (ordA Q) (fun W h => h.q) Tryd.underlying34 (ordInfo _)) hHeld ?_
        simp only [put_laws]
        refine wpAnyH_ready (rs := [2]) (by kernel_rfl) (by simp) ?_
        refine AllReadyH.cons rfl (fun K hK => ?_) AllReadyH.nil
        obtain ⟨old, hold⟩ := hHeld.m5
        refine step_store_row (by rfl) 32 (.tmp 5) (.tmp 46) (by rfl) (w2.heap.size) (matA X) (by rfl) (by rfl) 32 _ hold (matInfo _) (by rw [matA_size, matA_size]) (matA_one _) ?_
        clear hold
        obtain ⟨hHeld, hG⟩ := hHeld.setM
        refine hK.out _ _ hHeld (fun hHeld => ?_)
        clear hK K
        refine wpAnyH_ready (rs := [3]) (by kernel_rfl) (by simp) ?_
        refine AllReadyH.cons rfl (fun K hK => ?_) AllReadyH.nil
        obtain ⟨old, hold⟩ := hHeld.o6
        refine step_store_row (by rfl) 34 (.tmp 6) (.tmp 47) (by rfl) (w2.heap.size + 1) (ordA Q) (by rfl) (by rfl) 34 _ hold (ordInfo _) (by rw [ordA_size, ordA_size]) (ordA_one _) ?_
        clear hold
        have hG := hG.setRow (k := w2.heap.size + 1) (ordA Q) (by omega)
        obtain ⟨hHeld, hO⟩ := hHeld.setO
        refine hK.out _ _ hHeld (fun hHeld => ?_)
        clear hK K
        refine wpAnyH_done (by kernel_rfl) ?_ _
        refine NoPanic.normal ?_
        have hZs := base_le hHeld.q hr5 hBs
        have HZ := Lib.hid (show AgSt w w2.heap.size wx.heap.size X Q v' (l ++ [(ka, kb)]) _ from ⟨hG, hO, hHeld.own, hHeld.bel⟩)
        clear hG hO hHeld H4
        go_wp2
        refine ⟨⟨k + 1, v', l ++ [(ka, kb)], rfl, by omega, by go_num, ?_, ?_, ?_, by simp; omega, hZs⟩, by simp [intOf]; omega⟩
        · rw [HGw.out]; exact HZ.out
        · rw [HGw.out]
          intro p hp
          rw [List.mem_append] at hp
          rcases hp with hp | hp
          · obtain ⟨x, y, h1, h2, h3, h4⟩ := HHr.out p hp
            exact ⟨x, y, h1, h2, h3, HMo.out x y h4⟩
          · simp at hp
            rw [hp]
            exact HEd.out
        · intro hl
          simp at hl
    · obtain rfl : k = n := by omega
      have HSt := Lib.hid (grow_sorted es k)
      have HOk := Lib.hid (grow_ok es k)
      obtain ⟨A0, c0, hv, hc1, hc2⟩ := HSr.out.own.shape
      by_cases hl0 : l = []
      · have hg := HNr.out hl0
        subst hl0
        subst hv
        have HGz := Lib.hid (show GSt w w2.heap.size (w2.heap.size + 1) zeroM Od.newO wr from by
          have h1 := HSr.out.gr
          have h2 := HSr.out.od
          rw [hg] at h1 h2
          exact ⟨h1, h2, tab_keep HT.out HSr.out.bel, HSr.out.bel⟩)
        have hE1 : ∀ W, (Op.equalIn 10000 32 (.agg (matA zeroM)) (.agg #[Value.int IntKind.u64 0, Value.int IntKind.u64 0, Value.int IntKind.u64 0, Value.int IntKind.u64 0, Value.int IntKind.u64 0, Value.int IntKind.u64 0, Value.int IntKind.u64 0, Value.int IntKind.u64 0, Value.int IntKind.u64 0, Value.int IntKind.u64 0, Value.int IntKind.u64 0, Value.int IntKind.u64 0, Value.int IntKind.u64 0, Value.int IntKind.u64 0, Value.int IntKind.u64 0, Value.int IntKind.u64 0, Value.int IntKind.u64 0, Value.int IntKind.u64 0, Value.int IntKind.u64 0, Value.int IntKind.u64 0, Value.int IntKind.u64 0, Value.int IntKind.u64 0, Value.int IntKind.u64 0, Value.int IntKind.u64 0, Value.int IntKind.u64 0, Value.int IntKind.u64 0, Value.int IntKind.u64 0, Value.int IntKind.u64 0, Value.int IntKind.u64 0, Value.int IntKind.u64 0, Value.int IntKind.u64 0, Value.int IntKind.u64 0])).run Tryd.prog W = .ok true W := fun W => by rw [← zero_row]; exact eq_mat zeroM zeroM true (sameM_self _) W
        have hE2 := eq_ord Od.newO Od.newO true (sameO_self _)
        clear hg
        go_wp2
        refine wp_region_noPanic ?_
        refine region_start (S := GSt w w2.heap.size (w2.heap.size + 1) zeroM Od.newO) 9 rfl (by kernel_rfl) (HGz.out.below (below_drew _)) (fun hHeld => ?_)
        refine take_at 0 52 (.agg (matA zeroM)) rfl rfl (by kernel_rfl) (by kernel_rfl) (by kernel_rfl) (fun _ _ _ h => h) (yields_row (by rfl) 32 (.tmp 5) rfl (w2.heap.size) rfl 32 (matA zeroM) (fun W h => h.gr) Tryd.underlying32 (matInfo _)) hHeld ?_
        simp only [put_laws]
        refine take_at 1 53 (.agg #[Value.int IntKind.u64 0, Value.int IntKind.u64 0, Value.int IntKind.u64 0, Value.int IntKind.u64 0, Value.int IntKind.u64 0, Value.int IntKind.u64 0, Value.int IntKind.u64 0, Value.int IntKind.u64 0, Value.int IntKind.u64 0, Value.int IntKind.u64 0, Value.int IntKind.u64 0, Value.int IntKind.u64 0, Value.int IntKind.u64 0, Value.int IntKind.u64 0, Value.int IntKind.u64 0, Value.int IntKind.u64 0, Value.int IntKind.u64 0, Value.int IntKind.u64 0, Value.int IntKind.u64 0, Value.int IntKind.u64 0, Value.int IntKind.u64 0, Value.int IntKind.u64 0, Value.int IntKind.u64 0, Value.int IntKind.u64 0, Value.int IntKind.u64 0, Value.int IntKind.u64 0, Value.int IntKind.u64 0, Value.int IntKind.u64 0, Value.int IntKind.u64 0, Value.int IntKind.u64 0, Value.int IntKind.u64 0, Value.int IntKind.u64 0]) rfl rfl (by kernel_rfl) (by kernel_rfl) (by kernel_rfl) (fun _ _ _ h => h) (Or.inl ⟨by rfl, by intro W hW; clear hW; go_simp⟩) hHeld ?_
        simp only [put_laws]
        refine take_at 2 54 (.bool true) rfl rfl (by kernel_rfl) (by kernel_rfl) (by kernel_rfl) (fun _ _ _ h => h) (Or.inl ⟨by rfl, by intro W hW; clear hW; go_simp⟩) hHeld ?_
        simp only [put_laws]
        refine take_at 3 55 (.bool true) rfl rfl (by kernel_rfl) (by kernel_rfl) (by kernel_rfl) (fun _ _ _ h => h) (Or.inl ⟨by rfl, by intro W hW; clear hW; go_simp⟩) hHeld ?_
        simp only [put_laws]
        refine take_at 4 56 (.agg (ordA Od.newO)) rfl rfl (by kernel_rfl) (by kernel_rfl) (by kernel_rfl) (fun _ _ _ h => h) (yields_row (by rfl) 34 (.tmp 6) rfl (w2.heap.size + 1) rfl 34 (ordA Od.newO) (fun W h => h.od) Tryd.underlying34 (ordInfo _)) hHeld ?_
        simp only [put_laws]
        refine wpAnyH_ready (rs := [5]) (by kernel_rfl) (by simp) ?_
        refine AllReadyH.cons rfl (fun K hK => ?_) AllReadyH.nil
        go_simp
        refine (new_any _).mono ?_
        rintro e wa ⟨rfl, hb57⟩
        try go_simp
        have hHeld := hHeld.below hb57
        refine hK.out _ _ hHeld (fun hHeld => ?_)
        clear hK K
        refine take_at 6 58 (.bool true) rfl rfl (by kernel_rfl) (by kernel_rfl) (by kernel_rfl) (fun _ _ _ h => h) (Or.inl ⟨by rfl, by intro W hW; clear hW; go_simp⟩) hHeld ?_
        simp only [put_laws]
        refine take_at 7 59 (.bool true) rfl rfl (by kernel_rfl) (by kernel_rfl) (by kernel_rfl) (fun _ _ _ h => h) (Or.inl ⟨by rfl, by intro W hW; clear hW; go_simp⟩) hHeld ?_
        simp only [put_laws]
        refine take_at 8 4 (.bool true) rfl rfl (by kernel_rfl) (by kernel_rfl) (by kernel_rfl) (fun _ _ _ h => h) (Or.inl ⟨by rfl, by intro W hW; clear hW; go_simp⟩) hHeld ?_
        simp only [put_laws]
        refine wpAnyH_done (by kernel_rfl) ?_ _
        refine NoPanic.normal ?_
        go_wp2
        go_ret
        exact ⟨rfl, hHeld.bel⟩
      · have hpos : 0 < l.length := List.length_pos_iff.2 hl0
        obtain ⟨g, cap, hv2, _, _⟩ := World.ownsRow.form HSr.out.own hpos
        subst hv2
        have hix : t % l.length < l.length := Nat.mod_lt _ hpos
        have hcl := evals_get hix
        have x0 := World.ownsRow.cells HSr.out.own (g := g) rfl _ _ hcl.1
        have x1 := World.ownsRow.cells HSr.out.own (g := g) rfl _ _ hcl.2
        rw [addr_at] at x0 x1
        obtain ⟨x, y, hx, hy, hp, hed⟩ := HHr.out _ (List.getElem_mem hix)
        rw [hp] at x0 x1
        have hlt' := HSt.out.2 x y hed
        have hxy : x ≠ y := fun e => by rw [e] at hlt'; omega
        have HIns := Lib.hid (Od.insert_up hx hy hxy HSt.out hlt')
        have HSm := Lib.hid (put_same hed)
        have hmod := tmod_nat t l.length
        have hL0 : (((l.length : Nat) : Int) == 0) = false := by simp; omega
        clear hcl hp
        generalize t % l.length = ix at *
        generalize hLn : l.length = L at *
        generalize (growTo es k).1 = M at *
        generalize (growTo es k).2 = O at *
        clear hLn HHr HNr hv
        have hdl : decide (O x < O y) = true := by simpa using hlt'
        go_wp2_with (first
          | (refine wpList_load_row rfl 32 (.tmp 5) rfl w2.heap.size rfl 32 (matA M) (0, 0) _ (HSr.out.below (below_new _ _)).gr Tryd.underlying32 rfl (matInfo _) ?_)
          | (refine wpList_load_row rfl 34 (.tmp 6) rfl (w2.heap.size + 1) rfl 34 (ordA O) (0, 0) _ (HSr.out.below (below_new _ _)).od Tryd.underlying34 rfl (ordInfo _) ?_))
        refine (insert_val M O _ _ _ _ HOk.out HSt.out.1.ok ⟨by omega, by omega⟩ ⟨by omega, by omega⟩ (tab_keep HT.out (HSr.out.below (below_new _ _)).bel) HIns.out).mono ?_
        rintro e w8 ⟨rfl, hb8⟩
        obtain ⟨f0, f1⟩ := edge_box _ _ hb8
        have HF0 := Lib.hid f0
        have HF1 := Lib.hid f1
        have HS8 := Lib.hid ((HSr.out.below (below_new _ _)).below hb8)
        clear hb8 f0 f1 x0 x1
        go_wp2_with (refine wpList_let2 rfl rfl 32 34 (.tmp 14) (.tmp 76) (.tmp 15) (.tmp 77) rfl rfl rfl rfl w8 (Mm.put M x y) O rfl rfl rfl rfl rfl rfl rfl mat_info ord_info ?_; intro wz hM hO hB; have HF := Lib.hid (show FSt w w2.heap.size w8.heap.size wr.heap.size M (Mm.put M x y) O x y wz from ⟨HS8.out.gr.below hB, HS8.out.od.below hB, hM, hO, cell_keep HF0.out hB, cell_keep HF1.out hB, (HS8.out.below hB).bel⟩); clear hM hO hB)
        have hE1 := eq_mat (Mm.put M x y) M true HSm.out
        have hE2 := eq_ord O O true (sameO_self O)
        refine wp_region_noPanic ?_
        refine region_start (S := FSt w w2.heap.size w8.heap.size wr.heap.size M (Mm.put M x y) O x y) 23 rfl (by kernel_rfl) (HF.out.below (below_drew _)) (fun hHeld => ?_)
        refine take_at 0 79 (.bool true) rfl rfl (by kernel_rfl) (by kernel_rfl) (by kernel_rfl) (fun _ _ _ h => h) (Or.inl ⟨by rfl, by intro W hW; clear hW; go_simp⟩) hHeld ?_
        simp only [put_laws]
        refine take_at 1 80 (.bool true) rfl rfl (by kernel_rfl) (by kernel_rfl) (by kernel_rfl) (fun _ _ _ h => h) (Or.inl ⟨by rfl, by intro W hW; clear hW; go_simp⟩) hHeld ?_
        simp only [put_laws]
        refine take_at 2 81 (.agg (matA (Mm.put M x y))) rfl rfl (by kernel_rfl) (by kernel_rfl) (by kernel_rfl) (fun _ _ _ h => h) (yields_row (by rfl) 32 (.tmp 14) rfl (w8.heap.size) rfl 32 (matA (Mm.put M x y)) (fun W h => h.nx) Tryd.underlying32 (matInfo _)) hHeld ?_
        simp only [put_laws]
        refine take_at 3 82 (.agg (matA M)) rfl rfl (by kernel_rfl) (by kernel_rfl) (by kernel_rfl) (fun _ _ _ h => h) (yields_row (by rfl) 32 (.tmp 5) rfl (w2.heap.size) rfl 32 (matA M) (fun W h => h.gr) Tryd.underlying32 (matInfo _)) hHeld ?_
        simp only [put_laws]
        refine take_at 4 83 (.bool true) rfl rfl (by kernel_rfl) (by kernel_rfl) (by kernel_rfl) (fun _ _ _ h => h) (Or.inl ⟨by rfl, by intro W hW; clear hW; go_simp⟩) hHeld ?_
        simp only [put_laws]
        refine take_at 5 84 (.bool true) rfl rfl (by kernel_rfl) (by kernel_rfl) (by kernel_rfl) (fun _ _ _ h => h) (Or.inl ⟨by rfl, by intro W hW; clear hW; go_simp⟩) hHeld ?_
        simp only [put_laws]
        refine take_at 6 85 (.bool true) rfl rfl (by kernel_rfl) (by kernel_rfl) (by kernel_rfl) (fun _ _ _ h => h) (Or.inl ⟨by rfl, by intro W hW; clear hW; go_simp⟩) hHeld ?_
        simp only [put_laws]
        refine take_at 7 86 (.agg (ordA O)) rfl rfl (by kernel_rfl) (by kernel_rfl) (by kernel_rfl) (fun _ _ _ h => h) (yields_row (by rfl) 34 (.tmp 15) rfl (w8.heap.size + 1) rfl 34 (ordA O) (fun W h => h.nq) Tryd.underlying34 (ordInfo _)) hHeld ?_
        simp only [put_laws]
        refine take_at 8 87 (.agg (ordA O)) rfl rfl (by kernel_rfl) (by kernel_rfl) (by kernel_rfl) (fun _ _ _ h => h) (yields_row (by rfl) 34 (.tmp 6) rfl (w2.heap.size + 1) rfl 34 (ordA O) (fun W h => h.od) Tryd.underlying34 (ordInfo _)) hHeld ?_
        simp only [put_laws]
        refine take_at 9 88 (.bool true) rfl rfl (by kernel_rfl) (by kernel_rfl) (by kernel_rfl) (fun _ _ _ h => h) (Or.inl ⟨by rfl, by intro W hW; clear hW; go_simp⟩) hHeld ?_
        simp only [put_laws]
        refine take_at 10 89 (.bool true) rfl rfl (by kernel_rfl) (by kernel_rfl) (by kernel_rfl) (fun _ _ _ h => h) (Or.inl ⟨by rfl, by intro W hW; clear hW; go_simp⟩) hHeld ?_
        simp only [put_laws]
        refine take_at 11 90 (.bool true) rfl rfl (by kernel_rfl) (by kernel_rfl) (by kernel_rfl) (fun _ _ _ h => h) (Or.inl ⟨by rfl, by intro W hW; clear hW; go_simp⟩) hHeld ?_
        simp only [put_laws]
        refine take_at 12 91 (.pointer (some ⟨wr.heap.size, 0, none⟩)) rfl rfl (by kernel_rfl) (by kernel_rfl) (by kernel_rfl) (fun _ _ _ h => h) (Or.inl ⟨by rfl, by intro W hW; clear hW; go_simp; try (intro h; omega)⟩) hHeld ?_
        simp only [put_laws]
        refine take_at 13 92 (.int .i64 (x : Nat)) rfl rfl (by kernel_rfl) (by kernel_rfl) (by kernel_rfl) (fun _ _ _ h => h) (Or.inl ⟨by rfl, by intro W hW; have hc := hW.c0; clear hW; go_simp⟩) hHeld ?_
        simp only [put_laws]
        refine take_at 14 93 (.pointer (some ⟨w2.heap.size + 1, x, none⟩)) rfl rfl (by kernel_rfl) (by kernel_rfl) (by kernel_rfl) (fun _ _ _ h => h) (Or.inl ⟨by rfl, by intro W hW; clear hW; go_simp; try (intro h; omega)⟩) hHeld ?_
        simp only [put_laws]
        refine take_at 15 94 (.int .i64 (O x)) rfl rfl (by kernel_rfl) (by kernel_rfl) (by kernel_rfl) (fun _ _ _ h => h) (Or.inl ⟨by rfl, by intro W hW; have hc := hW.od.cell x hx; clear hW; go_simp⟩) hHeld ?_
        simp only [put_laws]
        refine take_at 16 95 (.pointer (some ⟨wr.heap.size, 1, none⟩)) rfl rfl (by kernel_rfl) (by kernel_rfl) (by kernel_rfl) (fun _ _ _ h => h) (Or.inl ⟨by rfl, by intro W hW; clear hW; go_simp; try (intro h; omega)⟩) hHeld ?_
        simp only [put_laws]
        refine take_at 17 96 (.int .i64 (y : Nat)) rfl rfl (by kernel_rfl) (by kernel_rfl) (by kernel_rfl) (fun _ _ _ h => h) (Or.inl ⟨by rfl, by intro W hW; have hc := hW.c1; clear hW; go_simp⟩) hHeld ?_
        simp only [put_laws]
        refine take_at 18 97 (.pointer (some ⟨w2.heap.size + 1, y, none⟩)) rfl rfl (by kernel_rfl) (by kernel_rfl) (by kernel_rfl) (fun _ _ _ h => h) (Or.inl ⟨by rfl, by intro W hW; clear hW; go_simp; try (intro h; omega)⟩) hHeld ?_
        simp only [put_laws]
        refine take_at 19 98 (.int .i64 (O y)) rfl rfl (by kernel_rfl) (by kernel_rfl) (by kernel_rfl) (fun _ _ _ h => h) (Or.inl ⟨by rfl, by intro W hW; have hc := hW.od.cell y hy; clear hW; go_simp⟩) hHeld ?_
        simp only [put_laws]
        refine take_at 20 99 (.bool true) rfl rfl (by kernel_rfl) (by kernel_rfl) (by kernel_rfl) (fun _ _ _ h => h) (Or.inl ⟨by rfl, by intro W hW; clear hW; go_simp⟩) hHeld ?_
        simp only [put_laws]
        refine take_at 21 100 (.bool true) rfl rfl (by kernel_rfl) (by kernel_rfl) (by kernel_rfl) (fun _ _ _ h => h) (Or.inl ⟨by rfl, by intro W hW; clear hW; go_simp⟩) hHeld ?_
        simp only [put_laws]
        refine take_at 22 4 (.bool true) rfl rfl (by kernel_rfl) (by kernel_rfl) (by kernel_rfl) (fun _ _ _ h => h) (Or.inl ⟨by rfl, by intro W hW; clear hW; go_simp⟩) hHeld ?_
        simp only [put_laws]
        refine wpAnyH_done (by kernel_rfl) ?_ _
        refine NoPanic.normal ?_
        go_wp2
        go_ret
        exact ⟨rfl, hHeld.bel⟩
set_option maxHeartbeats 1000000 in
theorem topoAgain_any (A : Option Addr) (n c : Nat) (es : Nat → Int × Int) (t : Nat) (w : World) (hE : EdgesAt w A n c es) (ht : t < 256) (hT : TabAt w) :
    Calls Tryd.prog 8 #[.slice A n c, .int .u8 (t : Nat)] w fun e w' => e = .returned (.bool true) ∧ Below w.heap.size w w' := by
  by_cases hn : n ≤ 80
  · exact topoAgain_few A n c es t w hE ht hn hT
  · have hbig : (80 : Int) < (n : Int) := by omega
    have HT := Lib.hid hT
    clear hT hE
    go_enter Tryd.func8, Tryd.ntmps8
    go_wp2_with fail
    refine (alive_any _ HT.out).mono ?_
    rintro e w1 ⟨rfl, hb1⟩
    go_wp2
    go_ret
    exact ⟨rfl, hb1⟩
end Go.Proofs.YtgelfjoacppkcaaDoor
