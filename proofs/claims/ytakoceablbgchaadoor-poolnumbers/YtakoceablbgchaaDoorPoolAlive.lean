/-
  The contract of the statements' own first look: the answers that the document fixes are given; nothing that was there is changed.
-/
import Derived.Test.YtakoceablbgchaaDoorPoolDoes
namespace Go.Proofs.YtakoceablbgchaaDoor
open Go.RowKit
attribute [local go_sem ↓] Go.wp_at_zero Go.wp_at_succ
noncomputable def q1 : Pl := Po.begun (Po.newP 2) 0
noncomputable def q2 : Pl := Po.begun q1 1
noncomputable def q3 : Pl := (Po.edge q2 1 0).1
noncomputable def q4 : Pl := (Po.endP q3 1).1
noncomputable def q5 : Pl := (Po.collect q4).1
theorem q0_sound : Po.Sound (Po.newP 2) := Po.new_sound (by decide)
theorem begin0 : Po.begin (Po.newP 2) = (q1, 0, 0) := by
  unfold Po.begin
  rw [Po.ff_some (s := 0) (by decide) (by decide) (fun j hj => by omega)]; rfl
theorem q1_m : q1.m = zeroM ∧ q1.o = Od.newO ∧ q1.live = 1 ∧ q1.done = 0 ∧ q1.count = 1 ∧ q1.size = 2 ∧ q1.ids = Od.upd zeroO 0 1 := ⟨rfl, rfl, rfl, rfl, rfl, rfl, rfl⟩
theorem begin1 : Po.begin q1 = (q2, 1, 0) := by
  unfold Po.begin
  rw [Po.ff_some (s := 1) (by decide) (by unfold Po.freeAt; rw [q1_m.2.2.1, q1_m.2.2.2.1, q1_m.2.2.2.2.2.1]; decide) (fun j hj => by
    obtain rfl : j = 0 := by omega
    unfold Po.freeAt; rw [q1_m.2.2.1, q1_m.2.2.2.1, q1_m.2.2.2.2.2.1]; decide)]; rfl
theorem q2_m : q2.m = zeroM ∧ q2.o = Od.newO ∧ q2.live = 3 ∧ q2.done = 0 ∧ q2.count = 2 ∧ q2.size = 2 ∧ q2.ids = Od.upd (Od.upd zeroO 0 1) 1 2 := ⟨rfl, rfl, rfl, rfl, rfl, rfl, rfl⟩
theorem begin2 : Po.begin q2 = (q2, 0, 4) := by
  unfold Po.begin
  rw [Po.ff_none fun j hj => ?_]
  unfold Po.freeAt
  rw [q2_m.2.2.1, q2_m.2.2.2.1, q2_m.2.2.2.2.2.1]
  rcases Nat.lt_or_ge j 2 with h | h
  · have : j = 0 ∨ j = 1 := by omega
    rcases this with rfl | rfl <;> decide
  · rw [decide_eq_false (by omega)]; rfl
theorem zero_sorted' : Od.Sorted zeroM Od.newO := Od.new_sorted zero_E
theorem ins10 : ∃ o, Od.insert zeroM Od.newO 1 0 = (Mm.put zeroM 1 0, o, true) ∧ Od.Sorted (Mm.put zeroM 1 0) o := by
  rcases Po.ins_may (x := 1) (y := 0) (by decide) (by decide) (by decide) zero_sorted' with ⟨o, e, hs, _⟩ | ⟨_, hf⟩
  · exact ⟨o, e, hs⟩
  · rw [Mm.put_closes (by decide) (by decide) (by decide) (Od.sorted_free zero_sorted'), Sm.has_nat _ (Mm.ways_lt _ _)] at hf
    simp at hf
    have hw := ((Mm.ways_test _ _ _).1 hf).2
    rcases hw.cases_head with h1 | ⟨_, h1, _⟩
    · exact absurd h1 (zero_E _ _)
    · exact absurd h1 (zero_E _ _)
theorem edge10 : ∃ o, Od.Sorted (Mm.put zeroM 1 0) o ∧ Po.edge q2 1 0 = ({ q2 with m := Mm.put zeroM 1 0, o := o }, 0) := by
  obtain ⟨o, e, hs⟩ := ins10
  refine ⟨o, hs, ?_⟩
  unfold Po.edge
  rw [if_neg (by decide), if_neg (by unfold Po.taken; rw [q2_m.2.2.1, q2_m.2.2.2.1]; decide), q2_m.1, q2_m.2.1, e]
  rfl
theorem q3_m : ∃ o, Od.Sorted (Mm.put zeroM 1 0) o ∧ q3 = { q2 with m := Mm.put zeroM 1 0, o := o } ∧ Po.edge q2 1 0 = (q3, 0) := by
  obtain ⟨o, hs, e⟩ := edge10
  exact ⟨o, hs, by unfold q3; rw [e], by unfold q3; rw [e]⟩
theorem edge01 : ∃ q, Po.edge q3 0 1 = (q, 5) := by
  obtain ⟨o, hs, e, _⟩ := q3_m
  refine ⟨q3, ?_⟩
  have h1 : Mm.E (Mm.put zeroM 1 0) 1 0 := (Mm.put_E (by decide) (by decide) 1 0).2 (.inr ⟨rfl, rfl⟩)
  have hins : Od.insert (Mm.put zeroM 1 0) o 0 1 = (Mm.put zeroM 1 0, o, false) := by
    rcases Po.ins_may (x := 0) (y := 1) (by decide) (by decide) (by decide) hs with ⟨q, _, hs2, _⟩ | ⟨e2, _⟩
    · have a1 := hs2.2 0 1 ((Mm.put_E (by decide) (by decide) 0 1).2 (.inr ⟨rfl, rfl⟩))
      have a2 := hs2.2 1 0 ((Mm.put_E (by decide) (by decide) 1 0).2 (.inl h1))
      omega
    · exact e2
  have ed : q3.live = 3 := by rw [e]; exact q2_m.2.2.1
  have ee : q3.done = 0 := by rw [e]; exact q2_m.2.2.2.1
  unfold Po.edge
  rw [if_neg (by decide), if_neg (by unfold Po.taken; rw [ed, ee]; decide), if_neg ?_]
  rw [show q3.m = Mm.put zeroM 1 0 by rw [e], show q3.o = o by rw [e], hins]
  simp
theorem q4_m : ∃ o, Od.Sorted (Mm.put zeroM 1 0) o ∧ q4 = { q2 with m := Mm.put zeroM 1 0, o := o, live := 1, done := 2 } ∧ Po.endP q3 1 = (q4, 0) := by
  obtain ⟨o, hs, e, _⟩ := q3_m
  have ed : q3.live = 3 := by rw [e]; exact q2_m.2.2.1
  have ee : q3.done = 0 := by rw [e]; exact q2_m.2.2.2.1
  have h : Po.endP q3 1 = (Po.ended q3 1, 0) := by
    unfold Po.endP
    rw [if_pos (by rw [ed]; decide)]
  refine ⟨o, hs, ?_, by unfold q4; rw [h]⟩
  unfold q4
  rw [h]
  unfold Po.ended
  simp only [ed, ee]
  rw [show Sm.less 3 1 = 1 by decide, show Sm.add 0 1 = 2 by decide, e]
theorem next4 : Po.next q4 = some 1 := by
  obtain ⟨o, _, e, _⟩ := q4_m
  have hd : q4.done = 2 := by rw [e]
  have hins : Mm.ins q4.m 1 = 0 := by
    apply Sm.ext; intro j
    cases hb : (Mm.ins q4.m 1).testBit j
    · simp
    · have := (Mm.ins_test q4.m 1 j).1 hb
      rw [show q4.m = Mm.put zeroM 1 0 by rw [e]] at this
      rcases (Mm.put_E (by decide) (by decide) j 1).1 this with h | ⟨_, h⟩
      · exact absurd h (zero_E _ _)
      · exact absurd h (by decide)
  have hg : Po.goable q4 1 = true := by unfold Po.goable; rw [hd, hins]; rfl
  have hn : ∀ k, k ≠ 1 → Po.goable q4 k = false := by
    intro k hk
    unfold Po.goable
    rw [hd, show (2 : Nat).testBit k = false by
      rw [show (2 : Nat) = 2 ^ 1 from rfl, Nat.testBit_two_pow]; simp; omega]
    rfl
  have h2 : Po.bestTo q4 2 = some 1 := best_yes hg (by rw [best_no (hn 0 (by decide))]; rfl)
  have key : ∀ k, 2 ≤ k → Po.bestTo q4 k = some 1 := by
    intro k hk
    induction k with
    | zero => omega
    | succ k ih =>
      rcases Nat.lt_or_ge k 2 with h | h
      · obtain rfl : k = 1 := by omega
        exact h2
      · rw [best_no (hn k (by omega)), ih h]
  exact key 32 (by decide)
theorem coll4 : Po.collect q4 = (q5, [2]) ∧ q5.live = 1 ∧ q5.done = 0 ∧ q5.count = 2 := by
  obtain ⟨o, _, e, _⟩ := q4_m
  have hd : q4.done = 2 := by rw [e]
  have h1 := Po.collect_some (p := q4) (by rw [hd]; decide) next4
  have hd5 : (Po.going q4 1).done = 0 := by unfold Po.going; simp only [hd]; decide
  have hn5 : Po.next (Po.going q4 1) = none := by
    cases h : Po.next (Po.going q4 1) with
    | none => rfl
    | some s =>
      have := (Po.next_spec h).2.1
      rw [hd5] at this; simp at this
  rw [Po.collect_none hn5] at h1
  have e5 : q5 = Po.going q4 1 := by unfold q5; rw [h1]
  refine ⟨by rw [h1, e5, show q4.ids 1 = 2 by rw [e]; rfl], ?_, ?_, ?_⟩
  · rw [e5]; unfold Po.going; rw [e]
  · rw [e5]; exact hd5
  · rw [e5]; unfold Po.going; rw [e]; exact q2_m.2.2.2.2.1
/- the walk -/
theorem wpList_setP {ops : Array Oper} {rest : List Oper} {op : Oper} {a : Act} {W : World} {Q : Exit → Act → World → Prop} (hgd : op.guard = none) (t : Nat) (x y : Operand) (ho : op.op = .store t x y) (hds : op.dst = none)
    (g : Nat) (p q : Pl) (hx : a.eval x = .pointer (some ⟨g, 0, none⟩)) (hy : a.eval y = .agg (poolA q)) (h : PoolAt W g p t) (hi : (Tryd.prog.info? t).map (·.size) = some 100)
    (hK : ∀ W', PoolAt W' g q t → (∀ B a, Below B a W → B ≤ g → Below B a W') → (∀ k, k ≠ g → W'.heap[k]? = W.heap[k]?) → wpList Tryd.prog ops Q rest a W') : wpList Tryd.prog ops Q (op :: rest) a W :=
  store_pool hgd t x y ho hds g p q t hx hy h hi (hK _ (poolAt_put h) (fun _ _ hb hg => setRow_below hb hg) (fun _ hk => setRow_other _ _ _ _ hk))
theorem begin_val (p q : Pl) (s e : Int) (w : World) (hp : p.Ok) (hc : p.count < 9223372036854775807) (hT : TabAt w) (h : Po.begin p = (q, s, e)) :
    Calls Tryd.prog 20 #[.agg (poolA p)] w fun e' w' => e' = .returned (.tuple #[.agg (poolA q), .int .i64 s, .int .i64 e]) ∧ Below w.heap.size w w' := by
  have := begin_any p w hp hc hT
  rw [h] at this; exact this
theorem edge_pval (p q : Pl) (a b e : Int) (w : World) (hp : p.Ok) (ha : -9223372036854775808 ≤ a ∧ a ≤ 9223372036854775807) (hb : -9223372036854775808 ≤ b ∧ b ≤ 9223372036854775807) (hT : TabAt w) (h : Po.edge p a b = (q, e)) :
    Calls Tryd.prog 26 #[.agg (poolA p), .int .i64 a, .int .i64 b] w fun e' w' => e' = .returned (.tuple #[.agg (poolA q), .int .i64 e]) ∧ Below w.heap.size w w' := by
  have := edge_any p a b w hp ha hb hT
  rw [h] at this; exact this
theorem end_pval (p q : Pl) (s e : Int) (w : World) (hp : p.Ok) (h0 : -9223372036854775808 ≤ s) (h1 : s ≤ 9223372036854775807) (h : Po.endP p s = (q, e)) :
    Calls Tryd.prog 19 #[.agg (poolA p), .int .i64 s] w fun e' w' => e' = .returned (.tuple #[.agg (poolA q), .int .i64 e]) ∧ Below w.heap.size w w' := by
  have := end_any p s w hp h0 h1
  rw [h] at this; exact this
theorem coll_pval (p q : Pl) (l : List Int) (w : World) (hp : p.Ok) (h : Po.collect p = (q, l)) :
    Calls Tryd.prog 15 #[.agg (poolA p)] w fun e w' => ∃ v, e = .returned (.tuple #[.agg (poolA q), v]) ∧ OwnI w' (w.heap.size + 2) v l ∧ Below w.heap.size w w' := by
  have := collect_any p w hp
  unfold CollPost at this
  rw [h] at this; exact this
theorem q1_sound : Po.Sound q1 := by have := Po.begin_sound q0_sound; rw [begin0] at this; exact this
theorem q2_sound : Po.Sound q2 := by have := Po.begin_sound q1_sound; rw [begin1] at this; exact this
theorem q3_sound : Po.Sound q3 := Po.edge_sound q2_sound 1 0
theorem q4_sound : Po.Sound q4 := Po.end_sound q3_sound 1
theorem q3_count : q3.count = 2 := by obtain ⟨o, _, e, _⟩ := q3_m; rw [e]; rfl
theorem q4_count : q4.count = 2 := by obtain ⟨o, _, e, _⟩ := q4_m; rw [e]; rfl
structure AvSt (p : Pl) (w : World) (g : Nat) (W : World) : Prop where
  po : PoolAt W g p 31
  ge : w.heap.size ≤ g
  bel : Below w.heap.size w W
theorem AvSt.below {p : Pl} {w : World} {g : Nat} {W W' : World} (h : AvSt p w g W) (hb : Below W.heap.size W W') : AvSt p w g W' := ⟨h.po.below hb, h.ge, h.bel.trans (hb.mono h.bel.size)⟩
set_option maxHeartbeats 4000000 in
set_option maxRecDepth 100000 in
theorem alive_any (w : World) (hT : TabAt w) : Calls Tryd.prog 9 #[] w fun e w' => e = .returned (.bool true) ∧ Below w.heap.size w w' := by
  have hz1 := (zero_of_info zero_pool_info).1
  have HT := Lib.hid hT
  clear hT
  go_enter Tryd.func9, Tryd.ntmps9
  go_wp2_with fail
  refine (pnew_yes 2 _ (by decide)).mono ?_
  rintro e w1 ⟨rfl, hb1⟩
  have B1 := Lib.hid hb1
  clear hb1
  go_wp2_with (first
    | (refine wpList_letP rfl 31 (.tmp 1) (.tmp 17) rfl rfl w1 (Po.newP 2) rfl rfl rfl pool_info ?_; intro w2 n2 hb2; have H2 := Lib.hid (show AvSt (Po.newP 2) w w1.heap.size w2 from ⟨n2, B1.out.size, B1.out.trans (hb2.mono B1.out.size)⟩); clear n2 hb2)
    | (refine load_pool rfl 31 (.tmp 1) rfl w1.heap.size _ 31 rfl _ H2.out.po Tryd.underlying31 rfl pool_info ?_))
  refine (begin_val (Po.newP 2) q1 0 0 _ (q0_sound.ok (by decide)) (by decide) (tab_keep HT.out H2.out.bel) begin0).mono ?_
  rintro e w3 ⟨rfl, hb3⟩
  have H3 := Lib.hid (H2.out.below hb3)
  clear hb3 H2
  go_wp2_with (first
    | (refine wpList_setP rfl 31 (.tmp 1) (.tmp 22) rfl rfl w1.heap.size _ q1 rfl rfl H3.out.po pool_info ?_; intro w4 n4 b4 _; have H4 := Lib.hid (show AvSt q1 w w1.heap.size w4 from ⟨n4, H3.out.ge, b4 _ _ H3.out.bel H3.out.ge⟩); clear n4 b4)
    | (refine load_pool rfl 31 (.tmp 1) rfl w1.heap.size _ 31 rfl _ H4.out.po Tryd.underlying31 rfl pool_info ?_))
  refine (begin_val q1 q2 1 0 _ (q1_sound.ok (by decide)) (by decide) (tab_keep HT.out H4.out.bel) begin1).mono ?_
  rintro e w5 ⟨rfl, hb5⟩
  have H5 := Lib.hid (H4.out.below hb5)
  clear hb5 H4 H3
  go_wp2_with (first
    | (refine wpList_setP rfl 31 (.tmp 1) (.tmp 28) rfl rfl w1.heap.size _ q2 rfl rfl H5.out.po pool_info ?_; intro w6 n6 b6 _; have H6 := Lib.hid (show AvSt q2 w w1.heap.size w6 from ⟨n6, H5.out.ge, b6 _ _ H5.out.bel H5.out.ge⟩); clear n6 b6)
    | (refine load_pool rfl 31 (.tmp 1) rfl w1.heap.size _ 31 rfl _ H6.out.po Tryd.underlying31 rfl pool_info ?_))
  refine (begin_val q2 q2 0 4 _ (q2_sound.ok (by decide)) (by decide) (tab_keep HT.out H6.out.bel) begin2).mono ?_
  rintro e w7 ⟨rfl, hb7⟩
  have H7 := Lib.hid (H6.out.below hb7)
  clear hb7 H6 H5
  go_wp2_with (first
    | (refine wpList_letP rfl 31 (.tmp 7) (.tmp 34) rfl rfl w7 q2 rfl rfl rfl pool_info ?_; intro w8 _ hb8; have H8 := Lib.hid (H7.out.below hb8); clear hb8)
    | (refine load_pool rfl 31 (.tmp 1) rfl w1.heap.size _ 31 rfl _ H8.out.po Tryd.underlying31 rfl pool_info ?_))
  obtain ⟨o3, hs3, e3, he3⟩ := q3_m
  clear hs3 e3
  refine (edge_pval q2 q3 1 0 0 _ (q2_sound.ok (by decide)) (by decide) (by decide) (tab_keep HT.out H8.out.bel) he3).mono ?_
  clear he3
  rintro e w9 ⟨rfl, hb9⟩
  have H9 := Lib.hid (H8.out.below hb9)
  clear hb9 H8 H7
  go_wp2_with (first
    | (refine wpList_setP rfl 31 (.tmp 1) (.tmp 40) rfl rfl w1.heap.size _ q3 rfl rfl H9.out.po pool_info ?_; intro w10 n10 b10 _; have H10 := Lib.hid (show AvSt q3 w w1.heap.size w10 from ⟨n10, H9.out.ge, b10 _ _ H9.out.bel H9.out.ge⟩); clear n10 b10)
    | (refine load_pool rfl 31 (.tmp 1) rfl w1.heap.size _ 31 rfl _ H10.out.po Tryd.underlying31 rfl pool_info ?_))
  obtain ⟨qx, hqx⟩ := edge01
  refine (edge_pval q3 qx 0 1 5 _ (q3_sound.ok (by rw [q3_count]; decide)) (by decide) (by decide) (tab_keep HT.out H10.out.bel) hqx).mono ?_
  clear hqx
  rintro e w11 ⟨rfl, hb11⟩
  have H11 := Lib.hid (H10.out.below hb11)
  clear hb11 H10 H9
  go_wp2_with (first
    | (refine wpList_letP rfl 31 (.tmp 11) (.tmp 45) rfl rfl w11 qx rfl rfl rfl pool_info ?_; intro w12 _ hb12; have H12 := Lib.hid (H11.out.below hb12); clear hb12)
    | (refine load_pool rfl 31 (.tmp 1) rfl w1.heap.size _ 31 rfl _ H12.out.po Tryd.underlying31 rfl pool_info ?_))
  obtain ⟨o4, hs4, e4, he4⟩ := q4_m
  clear hs4 e4
  refine (end_pval q3 q4 1 0 _ (q3_sound.ok (by rw [q3_count]; decide)) (by decide) (by decide) he4).mono ?_
  clear he4
  rintro e w13 ⟨rfl, hb13⟩
  have H13 := Lib.hid (H12.out.below hb13)
  clear hb13 H12 H11
  go_wp2_with (first
    | (refine wpList_setP rfl 31 (.tmp 1) (.tmp 50) rfl rfl w1.heap.size _ q4 rfl rfl H13.out.po pool_info ?_; intro w14 n14 b14 _; have H14 := Lib.hid (show AvSt q4 w w1.heap.size w14 from ⟨n14, H13.out.ge, b14 _ _ H13.out.bel H13.out.ge⟩); clear n14 b14)
    | (refine load_pool rfl 31 (.tmp 1) rfl w1.heap.size _ 31 rfl _ H14.out.po Tryd.underlying31 rfl pool_info ?_))
  refine (coll_pval q4 q5 [2] _ (q4_sound.ok (by rw [q4_count]; decide)) coll4.1).mono ?_
  rintro e w15 ⟨v, rfl, hown, hb15⟩
  have hg14 : w1.heap.size < w14.heap.size := H14.out.po.lt
  have H15 := Lib.hid (H14.out.below hb15)
  have HO := Lib.hid hown
  obtain ⟨A, c, rfl, hc1, hc2⟩ := hown.shape
  obtain ⟨g, rfl, hcell⟩ := hown.at_ (k := 0) (by decide)
  clear hb15 H14 H13 hown
  have hcell : w15.cell? ⟨g, 0, none⟩ = some (.int .i64 2) := hcell
  have hlen : [(2 : Int)].length = 1 := rfl
  rw [hlen]
  go_wp2_with (refine wpList_setP rfl 31 (.tmp 1) (.tmp 55) rfl rfl w1.heap.size _ q5 rfl rfl H15.out.po pool_info ?_; intro w16 n16 b16 k16; have H16 := Lib.hid (show AvSt q5 w w1.heap.size w16 from ⟨n16, H15.out.ge, b16 _ _ H15.out.bel H15.out.ge⟩); have hcl : w16.cell? ⟨g, 0, none⟩ = some (.int .i64 2) := (World.cell?_of_block (k16 g (by have := (World.ownsRow.lt HO.out g rfl).1; omega))).trans hcell; have d1 := n16.live_; have d2 := n16.done_; have d3 := n16.count_; rw [coll4.2.1] at d1; rw [coll4.2.2.1] at d2; rw [coll4.2.2.2] at d3; clear n16 b16 k16)
  go_ret
  exact ⟨rfl, H16.out.bel⟩
end Go.Proofs.YtakoceablbgchaaDoor
