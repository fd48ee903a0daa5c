/-
  The walk of ValueNumbers.
-/
import Derived.Test.YtpfoehcgcofgpaaDoorValueDraw
namespace Go.Proofs.YtpfoehcgcofgpaaDoor
open Go.RowKit
theorem add_num (a b : Int) (w : World) :
    Calls Tryd.prog 10 #[.agg #[.int .i64 1, .int .i64 a], .agg #[.int .i64 1, .int .i64 b]] w fun e w' => e = .returned (.tuple #[.agg #[.int .i64 1, .int .i64 (wrap64 (a + b))], .int .i64 0]) ∧ Below w.heap.size w w' := by
  have := add_any 1 a 1 b w
  rw [did_ints] at this
  exact this
set_option maxHeartbeats 1000000 in
set_option maxRecDepth 100000 in
theorem doAdd_any (a b : Int) (w : World) :
    Calls Tryd.prog 22 #[.func (.func 10) #[] #[], .agg #[.int .i64 1, .int .i64 a], .agg #[.int .i64 1, .int .i64 b]] w fun e w' => e = .returned (.agg #[.int .i64 1, .int .i64 (wrap64 (a + b))]) ∧ Below w.heap.size w w' := by
  go_enter Tryd.func22, Tryd.ntmps22
  go_wp2_with fail
  refine (add_num a b _).mono ?_
  rintro e w1 ⟨rfl, hb1⟩
  obtain ⟨v1, hB⟩ := w3_on hb1
  have c0 := v1.fst
  have c1 := v1.snd
  have f0 := v1.free 0
  have f1 := v1.free 1
  have hlt := v1.lt
  have V1 := Lib.hid v1
  clear v1 hb1
  go_wp2
  exact bodyPost_ret (results_val rfl _ _ (w.heap.size + 1 + 1) 25 _ _ _ rfl ((V1.out.put _ _).alloc _) Tryd.underlying25 val_info) rfl ⟨rfl, (below_put hB (by omega) _ _).alloc (by simp [World.setCell]; omega) _⟩
theorem sub_num (a b : Int) (w : World) :
    Calls Tryd.prog 11 #[.agg #[.int .i64 1, .int .i64 a], .agg #[.int .i64 1, .int .i64 b]] w fun e w' => e = .returned (.tuple #[.agg #[.int .i64 1, .int .i64 (wrap64 (a - b))], .int .i64 0]) ∧ Below w.heap.size w w' := by
  have := sub_any 1 a 1 b w
  rw [did_ints] at this
  exact this
set_option maxHeartbeats 1000000 in
set_option maxRecDepth 100000 in
theorem doSub_any (a b : Int) (w : World) :
    Calls Tryd.prog 22 #[.func (.func 11) #[] #[], .agg #[.int .i64 1, .int .i64 a], .agg #[.int .i64 1, .int .i64 b]] w fun e w' => e = .returned (.agg #[.int .i64 1, .int .i64 (wrap64 (a - b))]) ∧ Below w.heap.size w w' := by
  go_enter Tryd.func22, Tryd.ntmps22
  go_wp2_with fail
  refine (sub_num a b _).mono ?_
  rintro e w1 ⟨rfl, hb1⟩
  obtain ⟨v1, hB⟩ := w3_on hb1
  have c0 := v1.fst
  have c1 := v1.snd
  have f0 := v1.free 0
  have f1 := v1.free 1
  have hlt := v1.lt
  have V1 := Lib.hid v1
  clear v1 hb1
  go_wp2
  exact bodyPost_ret (results_val rfl _ _ (w.heap.size + 1 + 1) 25 _ _ _ rfl ((V1.out.put _ _).alloc _) Tryd.underlying25 val_info) rfl ⟨rfl, (below_put hB (by omega) _ _).alloc (by simp [World.setCell]; omega) _⟩
theorem mul_num (a b : Int) (w : World) :
    Calls Tryd.prog 12 #[.agg #[.int .i64 1, .int .i64 a], .agg #[.int .i64 1, .int .i64 b]] w fun e w' => e = .returned (.tuple #[.agg #[.int .i64 1, .int .i64 (wrap64 (a * b))], .int .i64 0]) ∧ Below w.heap.size w w' := by
  have := mul_any 1 a 1 b w
  rw [did_ints] at this
  exact this
set_option maxHeartbeats 1000000 in
set_option maxRecDepth 100000 in
theorem doMul_any (a b : Int) (w : World) :
    Calls Tryd.prog 22 #[.func (.func 12) #[] #[], .agg #[.int .i64 1, .int .i64 a], .agg #[.int .i64 1, .int .i64 b]] w fun e w' => e = .returned (.agg #[.int .i64 1, .int .i64 (wrap64 (a * b))]) ∧ Below w.heap.size w w' := by
  go_enter Tryd.func22, Tryd.ntmps22
  go_wp2_with fail
  refine (mul_num a b _).mono ?_
  rintro e w1 ⟨rfl, hb1⟩
  obtain ⟨v1, hB⟩ := w3_on hb1
  have c0 := v1.fst
  have c1 := v1.snd
  have f0 := v1.free 0
  have f1 := v1.free 1
  have hlt := v1.lt
  have V1 := Lib.hid v1
  clear v1 hb1
  go_wp2
  exact bodyPost_ret (results_val rfl _ _ (w.heap.size + 1 + 1) 25 _ _ _ rfl ((V1.out.put _ _).alloc _) Tryd.underlying25 val_info) rfl ⟨rfl, (below_put hB (by omega) _ _).alloc (by simp [World.setCell]; omega) _⟩
theorem doAdd_val (a b v : Int) (w : World) (h : wrap64 (a + b) = v) :
    Calls Tryd.prog 22 #[.func (.func 10) #[] #[], .agg #[.int .i64 1, .int .i64 a], .agg #[.int .i64 1, .int .i64 b]] w fun e w' => e = .returned (.agg #[.int .i64 1, .int .i64 v]) ∧ Below w.heap.size w w' := by
  subst h; exact doAdd_any a b w
theorem doSub_val (a b v : Int) (w : World) (h : wrap64 (a - b) = v) :
    Calls Tryd.prog 22 #[.func (.func 11) #[] #[], .agg #[.int .i64 1, .int .i64 a], .agg #[.int .i64 1, .int .i64 b]] w fun e w' => e = .returned (.agg #[.int .i64 1, .int .i64 v]) ∧ Below w.heap.size w w' := by
  subst h; exact doSub_any a b w
theorem doMul_val (a b v : Int) (w : World) (h : wrap64 (a * b) = v) :
    Calls Tryd.prog 22 #[.func (.func 12) #[] #[], .agg #[.int .i64 1, .int .i64 a], .agg #[.int .i64 1, .int .i64 b]] w fun e w' => e = .returned (.agg #[.int .i64 1, .int .i64 v]) ∧ Below w.heap.size w w' := by
  subst h; exact doMul_any a b w
theorem less_val (a b : Int) (v : Bool) (w : World) (h : decide (a < b) = v) :
    Calls Tryd.prog 14 #[.agg #[.int .i64 1, .int .i64 a], .agg #[.int .i64 1, .int .i64 b]] w fun e w' => e = .returned (.tuple #[.bool v, .int .i64 0]) ∧ Below w.heap.size w w' := by
  have := less_any 1 a 1 b w
  rw [lesd_ints] at this
  subst h; exact this
theorem less_num (a b : Int) (w : World) :
    Calls Tryd.prog 14 #[.agg #[.int .i64 1, .int .i64 a], .agg #[.int .i64 1, .int .i64 b]] w fun e w' => e = .returned (.tuple #[.bool (decide (a < b)), .int .i64 0]) ∧ Below w.heap.size w w' := by
  have := less_any 1 a 1 b w
  rw [lesd_ints] at this
  exact this
/-- three values in their variables. -/
structure Three (w : World) (g : Nat) (a b c : Int) (W : World) : Prop where
  x : ValAt W g 25 1 a
  y : ValAt W (g + 1) 25 1 b
  z : ValAt W (g + 1 + 1) 25 1 c
  bel : Below w.heap.size w W
theorem Three.below {w W W' : World} {g : Nat} {a b c : Int} (h : Three w g a b c W) (hb : Below W.heap.size W W') : Three w g a b c W' := ⟨h.x.below hb, h.y.below hb, h.z.below hb, h.bel.trans (hb.mono h.bel.size)⟩
theorem three_new {w w1 : World} (hb : Below w.heap.size w w1) (a b c : Int) : Three w w1.heap.size a b c (((w1.alloc (.cells #[.int .i64 1, .int .i64 a] 25)).alloc (.cells #[.int .i64 1, .int .i64 b] 25)).alloc (.cells #[.int .i64 1, .int .i64 c] 25)) := by
  refine ⟨((valAt_new _ _ _ _).alloc _).alloc _, ?_, ?_, ((hb.alloc hb.size _).alloc (by have := hb.size; simp; omega) _).alloc (by have := hb.size; simp; omega) _⟩
  · have := (valAt_new (w1.alloc (.cells #[.int .i64 1, .int .i64 a] 25)) 1 b 25).alloc (.cells #[.int .i64 1, .int .i64 c] 25)
    simpa using this
  · have := valAt_new ((w1.alloc (.cells #[.int .i64 1, .int .i64 a] 25)).alloc (.cells #[.int .i64 1, .int .i64 b] 25)) 1 c 25
    simpa using this
theorem Three.setv {w W : World} {g : Nat} {a b c : Int} (h : Three w g a b c W) {g' : Nat} {t : TypeId} {k n : Int} (_ : ValAt W g' t k n) (h1 : g + 1 + 1 < g') (h2 : w.heap.size ≤ g') (x y : Int) : Three w g a b c ((W.setCell ⟨g', 0, none⟩ (.int .i64 x)).setCell ⟨g', 1, none⟩ (.int .i64 y)) :=
  ⟨h.x.other (by omega) _ _, h.y.other (by omega) _ _, h.z.other (by omega) _ _, below_put h.bel h2 _ _⟩
structure Four (w : World) (g : Nat) (a b c : Int) (g' : Nat) (x : Int) (W : World) : Prop where
  t : Three w g a b c W
  s : ValAt W g' 25 1 x
theorem Four.below {w W W' : World} {g g' : Nat} {a b c x : Int} (h : Four w g a b c g' x W) (hb : Below W.heap.size W W') : Four w g a b c g' x W' := ⟨h.t.below hb, h.s.below hb⟩
theorem num_sub {a b P : Int} (ha : Va.i64p a) (h : wrap64 (a + b) = P) : wrap64 (P - b) = a := by
  rw [← h, Va.wrap_sub, show a + b - b = a by omega, Va.wrap_in ha]
theorem num_dist {a b c s X Q R : Int} (hs : wrap64 (b + c) = s) (hX : wrap64 (a * s) = X) (hQ : wrap64 (a * b) = Q) (hR : wrap64 (a * c) = R) : wrap64 (Q + R) = X := by
  rw [← hX, ← hs, ← hQ, ← hR, Va.wrap_add, Int.add_comm, Va.wrap_add, Int.mul_comm a (wrap64 (b + c)), Va.wrap_mul, Int.add_mul, Int.mul_comm b a, Int.mul_comm c a, Int.add_comm]
set_option maxHeartbeats 8000000 in
set_option maxRecDepth 100000 in
theorem numbers_at (a b c s X P Q R : Int) (L M D : Bool) (w : World) (hL : Laid w) (hs : wrap64 (b + c) = s) (hX : wrap64 (a * s) = X) (hP : wrap64 (a + b) = P) (hP2 : wrap64 (b + a) = P) (hPs : wrap64 (P - b) = a) (hQ : wrap64 (a * b) = Q) (hQ2 : wrap64 (b * a) = Q) (hR : wrap64 (a * c) = R) (hS : wrap64 (Q + R) = X)
    (hl : decide (a < b) = L) (hm : decide (b < a) = M) (hd : (a == b) = !D) (hc : L = true ∧ M = false ∧ D = true ∨ L = false ∧ M = false ∧ D = false ∨ L = false ∧ M = true ∧ D = true) :
    Calls Tryd.prog 6 #[.int .i64 a, .int .i64 b, .int .i64 c] w fun e w' => e = .returned (.bool true) ∧ Below w.heap.size w w' := by
  have HL := Lib.hid hL
  have Hs := Lib.hid hs
  have HX := Lib.hid hX
  have HP := Lib.hid hP
  have HP2 := Lib.hid hP2
  have HPs := Lib.hid hPs
  have HQ := Lib.hid hQ
  have HQ2 := Lib.hid hQ2
  have HR := Lib.hid hR
  have HS := Lib.hid hS
  have Hl := Lib.hid hl
  have Hm := Lib.hid hm
  have Hd := Lib.hid hd
  have Hc := Lib.hid hc
  clear hL hs hX hP hP2 hPs hQ hQ2 hR hS hl hm hd hc
  go_enter Tryd.func6, Tryd.ntmps6
  go_wp2_with fail
  refine (alive_any _ HL.out).mono ?_
  rintro e w1 ⟨rfl, hb1⟩
  have H1 := Lib.hid (three_new hb1 a b c)
  clear hb1
  go_wp2_with fail
  refine (less_val a b L _ Hl.out).mono ?_
  rintro e w2 ⟨rfl, hb2⟩
  have h2 := H1.out.below hb2
  have c0 := h2.x.fst
  have c1 := h2.x.snd
  have c2 := h2.y.fst
  have c3 := h2.y.snd
  have H2 := Lib.hid h2
  clear h2 hb2 H1
  go_wp2_with fail
  refine (less_val b a M _ Hm.out).mono ?_
  rintro e w3 ⟨rfl, hb3⟩
  have H3 := Lib.hid (H2.out.below hb3)
  clear c0 c1 c2 c3 hb3 H2
  go_wp2_with fail
  go_cut [15] from 36 to 42 (fun u wx => ∃ g, u = .pointer (some ⟨g, 0, none⟩) ∧ Three w w1.heap.size a b c wx ∧ ValAt wx g 25 1 X)
  case first =>
    refine wp_region_noPanic ?_
    refine region_start (S := Three w w1.heap.size a b c) 9 rfl (by kernel_rfl) (H3.out.below (below_drew _)) (fun hHeld => ?_)
    refine take_at 0 36 (.func (.func 22) #[] #[]) rfl rfl (by kernel_rfl) (by kernel_rfl) (by kernel_rfl) (fun _ _ _ h => h) (Or.inl ⟨by rfl, by intro W hW; clear hW; go_simp⟩) hHeld ?_
    simp only [put_laws]
    refine take_at 1 37 (.agg #[.int .i64 1, .int .i64 a]) rfl rfl (by kernel_rfl) (by kernel_rfl) (by kernel_rfl) (fun _ _ _ h => h) (yields_val (by rfl) 25 (.tmp 7) rfl (w1.heap.size) rfl 25 _ _ (fun W h => h.x) Tryd.underlying25 val_info) hHeld ?_
    simp only [put_laws]
    refine take_at 2 38 (.func (.func 22) #[] #[]) rfl rfl (by kernel_rfl) (by kernel_rfl) (by kernel_rfl) (fun _ _ _ h => h) (Or.inl ⟨by rfl, by intro W hW; clear hW; go_simp⟩) hHeld ?_
    simp only [put_laws]
    refine take_at 3 39 (.agg #[.int .i64 1, .int .i64 b]) rfl rfl (by kernel_rfl) (by kernel_rfl) (by kernel_rfl) (fun _ _ _ h => h) (yields_val (by rfl) 25 (.tmp 8) rfl (w1.heap.size + 1) rfl 25 _ _ (fun W h => h.y) Tryd.underlying25 val_info) hHeld ?_
    simp only [put_laws]
    refine take_at 4 40 (.agg #[.int .i64 1, .int .i64 c]) rfl rfl (by kernel_rfl) (by kernel_rfl) (by kernel_rfl) (fun _ _ _ h => h) (yields_val (by rfl) 25 (.tmp 9) rfl (w1.heap.size + 1 + 1) rfl 25 _ _ (fun W h => h.z) Tryd.underlying25 val_info) hHeld ?_
    simp only [put_laws]
    refine wpAnyH_ready (rs := [5, 7]) (by kernel_rfl) (by simp) ?_
    refine AllReadyH.cons rfl (fun K hK => ?_) (AllReadyH.cons rfl (fun K hK => ?_) AllReadyH.nil)
    · go_simp
      refine (doAdd_val b c s _ Hs.out).mono ?_
      rintro e wc41 ⟨rfl, hb⟩
      try go_simp
      have hHeld := hHeld.below hb
      have hsz41 := hb.size
      clear hb
      refine hK.out _ _ hHeld (fun hHeld => ?_)
      clear hK K
      refine wpAnyH_ready (rs := [6, 7]) (by kernel_rfl) (by simp) ?_
      refine AllReadyH.cons rfl (fun K hK => ?_) (AllReadyH.cons rfl (fun K hK => ?_) AllReadyH.nil)
      · go_simp
        refine (doMul_val a s X _ HX.out).mono ?_
        rintro e wc42 ⟨rfl, hb⟩
        try go_simp
        have hHeld := hHeld.below hb
        have hsz42 := hb.size
        clear hb
        refine hK.out _ _ hHeld (fun hHeld => ?_)
        clear hK K
        refine wpAnyH_ready (rs := [7]) (by kernel_rfl) (by simp) ?_
        refine AllReadyH.cons rfl (fun K hK => ?_) AllReadyH.nil
        go_simp
        have v15 : ValAt ((wc42).alloc (.cells #[.int .i64 0, .int .i64 0] 25)) wc42.heap.size 25 0 0 := valAt_new (wc42) 0 0 25
        have hPre := hHeld
        have hHeld := hHeld.below (below_new _ (.cells #[.int .i64 0, .int .i64 0] 25))
        refine hK.out _ _ hHeld (fun hHeld => ?_)
        clear hK K
        have c0 := v15.fst
        have c1 := v15.snd
        have f0 := v15.free 0
        have f1 := v15.free 1
        refine wpAnyH_ready (rs := [8]) (by kernel_rfl) (by simp) ?_
        refine AllReadyH.cons rfl (fun K hK => ?_) AllReadyH.nil
        go_simp
        clear c0 c1 f0 f1
        first
          | (refine hK.out _ _ (hHeld.setv v15 (by have := H3.out.z.lt; simp at *; omega) (by have := H3.out.bel.size; simp at *; omega) 1 X) (fun hHeld => ?_); have v15 := v15.put 1 X)
          | (refine hK.out _ _ (hPre.below (below_new _ _)) (fun hHeld => ?_); have v15 := valAt_new (wc42) 1 X 25)
        clear hK K
        refine wpAnyH_done (by kernel_rfl) ?_ _
        refine NoPanic.normal ?_
        go_wp2_with fail
        go_meet
        exact ⟨_, rfl, hHeld, v15⟩
      · go_simp
        have v15 : ValAt ((wc41).alloc (.cells #[.int .i64 0, .int .i64 0] 25)) wc41.heap.size 25 0 0 := valAt_new (wc41) 0 0 25
        have hPre := hHeld
        have hHeld := hHeld.below (below_new _ (.cells #[.int .i64 0, .int .i64 0] 25))
        refine hK.out _ _ hHeld (fun hHeld => ?_)
        clear hK K
        refine wpAnyH_ready (rs := [6]) (by kernel_rfl) (by simp) ?_
        refine AllReadyH.cons rfl (fun K hK => ?_) AllReadyH.nil
        go_simp
        refine (doMul_val a s X _ HX.out).mono ?_
        rintro e wc42 ⟨rfl, hb⟩
        try go_simp
        have hHeld := hHeld.below hb
        have v15 := v15.below hb
        have hsz42 := hb.size
        clear hb
        refine hK.out _ _ hHeld (fun hHeld => ?_)
        clear hK K
        have c0 := v15.fst
        have c1 := v15.snd
        have f0 := v15.free 0
        have f1 := v15.free 1
        refine wpAnyH_ready (rs := [8]) (by kernel_rfl) (by simp) ?_
        refine AllReadyH.cons rfl (fun K hK => ?_) AllReadyH.nil
        go_simp
        clear c0 c1 f0 f1
        first
          | (refine hK.out _ _ (hHeld.setv v15 (by have := H3.out.z.lt; simp at *; omega) (by have := H3.out.bel.size; simp at *; omega) 1 X) (fun hHeld => ?_); have v15 := v15.put 1 X)
          | (refine hK.out _ _ (hPre.below (below_new _ _)) (fun hHeld => ?_); have v15 := valAt_new (wc42) 1 X 25)
        clear hK K
        refine wpAnyH_done (by kernel_rfl) ?_ _
        refine NoPanic.normal ?_
        go_wp2_with fail
        go_meet
        exact ⟨_, rfl, hHeld, v15⟩
    · go_simp
      have v15 : ValAt ((w3.drew).alloc (.cells #[.int .i64 0, .int .i64 0] 25)) w3.heap.size 25 0 0 := valAt_new (w3.drew) 0 0 25
      have hPre := hHeld
      have hHeld := hHeld.below (below_new _ (.cells #[.int .i64 0, .int .i64 0] 25))
      refine hK.out _ _ hHeld (fun hHeld => ?_)
      clear hK K
      refine wpAnyH_ready (rs := [5]) (by kernel_rfl) (by simp) ?_
      refine AllReadyH.cons rfl (fun K hK => ?_) AllReadyH.nil
      go_simp
      refine (doAdd_val b c s _ Hs.out).mono ?_
      rintro e wc41 ⟨rfl, hb⟩
      try go_simp
      have hHeld := hHeld.below hb
      have v15 := v15.below hb
      have hsz41 := hb.size
      clear hb
      refine hK.out _ _ hHeld (fun hHeld => ?_)
      clear hK K
      refine wpAnyH_ready (rs := [6]) (by kernel_rfl) (by simp) ?_
      refine AllReadyH.cons rfl (fun K hK => ?_) AllReadyH.nil
      go_simp
      refine (doMul_val a s X _ HX.out).mono ?_
      rintro e wc42 ⟨rfl, hb⟩
      try go_simp
      have hHeld := hHeld.below hb
      have v15 := v15.below hb
      have hsz42 := hb.size
      clear hb
      refine hK.out _ _ hHeld (fun hHeld => ?_)
      clear hK K
      have c0 := v15.fst
      have c1 := v15.snd
      have f0 := v15.free 0
      have f1 := v15.free 1
      refine wpAnyH_ready (rs := [8]) (by kernel_rfl) (by simp) ?_
      refine AllReadyH.cons rfl (fun K hK => ?_) AllReadyH.nil
      go_simp
      clear c0 c1 f0 f1
      first
        | (refine hK.out _ _ (hHeld.setv v15 (by have := H3.out.z.lt; simp at *; omega) (by have := H3.out.bel.size; simp at *; omega) 1 X) (fun hHeld => ?_); have v15 := v15.put 1 X)
        | (refine hK.out _ _ (hPre.below (below_new _ _)) (fun hHeld => ?_); have v15 := valAt_new (wc42) 1 X 25)
      clear hK K
      refine wpAnyH_done (by kernel_rfl) ?_ _
      refine NoPanic.normal ?_
      go_wp2_with fail
      go_meet
      exact ⟨_, rfl, hHeld, v15⟩
  case rest =>
    obtain ⟨g, rfl, h4, h5⟩ := hcut
    have H4 := Lib.hid (Four.mk h4 h5)
    clear h4 h5 H3
    rcases Hc.out with ⟨rfl, rfl, rfl⟩ | ⟨rfl, rfl, rfl⟩ | ⟨rfl, rfl, rfl⟩
    · go_wp2_with fail
      refine wp_region_noPanic ?_
      refine region_start (S := Four w w1.heap.size a b c g X) 71 rfl (by kernel_rfl) (H4.out.below (below_drew _)) (fun hHeld => ?_)
      refine take_at 0 43 (.func (.func 22) #[] #[]) rfl rfl (by kernel_rfl) (by kernel_rfl) (by kernel_rfl) (fun _ _ _ h => h) (Or.inl ⟨by rfl, by intro W hW; clear hW; go_simp⟩) hHeld ?_
      simp only [put_laws]
      refine take_at 1 44 (.func (.func 22) #[] #[]) rfl rfl (by kernel_rfl) (by kernel_rfl) (by kernel_rfl) (fun _ _ _ h => h) (Or.inl ⟨by rfl, by intro W hW; clear hW; go_simp⟩) hHeld ?_
      simp only [put_laws]
      refine take_at 2 45 (.agg #[.int .i64 1, .int .i64 a]) rfl rfl (by kernel_rfl) (by kernel_rfl) (by kernel_rfl) (fun _ _ _ h => h) (yields_val (by rfl) 25 (.tmp 7) rfl (w1.heap.size) rfl 25 _ _ (fun W h => h.t.x) Tryd.underlying25 val_info) hHeld ?_
      simp only [put_laws]
      refine take_at 3 46 (.agg #[.int .i64 1, .int .i64 b]) rfl rfl (by kernel_rfl) (by kernel_rfl) (by kernel_rfl) (fun _ _ _ h => h) (yields_val (by rfl) 25 (.tmp 8) rfl (w1.heap.size + 1) rfl 25 _ _ (fun W h => h.t.y) Tryd.underlying25 val_info) hHeld ?_
      simp only [put_laws]
      refine take_at 5 48 (.agg #[.int .i64 1, .int .i64 b]) rfl rfl (by kernel_rfl) (by kernel_rfl) (by kernel_rfl) (fun _ _ _ h => h) (yields_val (by rfl) 25 (.tmp 8) rfl (w1.heap.size + 1) rfl 25 _ _ (fun W h => h.t.y) Tryd.underlying25 val_info) hHeld ?_
      simp only [put_laws]
      refine take_at 7 50 (.agg #[.int .i64 1, .int .i64 a]) rfl rfl (by kernel_rfl) (by kernel_rfl) (by kernel_rfl) (fun _ _ _ h => h) (yields_val (by rfl) 25 (.tmp 7) rfl (w1.heap.size) rfl 25 _ _ (fun W h => h.t.x) Tryd.underlying25 val_info) hHeld ?_
      simp only [put_laws]
      refine wpAnyH_ready (rs := [4]) (by kernel_rfl) (by simp) ?_
      refine AllReadyH.cons rfl (fun K hK => ?_) AllReadyH.nil
      go_simp
      refine (doAdd_val a b P _ HP.out).mono ?_
      rintro e wc47 ⟨rfl, hb⟩
      try go_simp
      have hHeld := hHeld.below hb
      have hsz47 := hb.size
      clear hb
      refine hK.out _ _ hHeld (fun hHeld => ?_)
      clear hK K
      refine wpAnyH_ready (rs := [6]) (by kernel_rfl) (by simp) ?_
      refine AllReadyH.cons rfl (fun K hK => ?_) AllReadyH.nil
      go_simp
      refine (doSub_val P b a _ HPs.out).mono ?_
      rintro e wc49 ⟨rfl, hb⟩
      try go_simp
      have hHeld := hHeld.below hb
      have hsz49 := hb.size
      clear hb
      refine hK.out _ _ hHeld (fun hHeld => ?_)
      clear hK K
      refine take_at 8 51 (.bool true) rfl rfl (by kernel_rfl) (by kernel_rfl) (by kernel_rfl) (fun _ _ _ h => h) (Or.inl ⟨by rfl, by intro W hW; clear hW; go_simp⟩) hHeld ?_
      simp only [put_laws]
      refine take_at 9 52 (.bool true) rfl rfl (by kernel_rfl) (by kernel_rfl) (by kernel_rfl) (fun _ _ _ h => h) (Or.inl ⟨by rfl, by intro W hW; clear hW; go_simp⟩) hHeld ?_
      simp only [put_laws]
      refine take_at 10 53 (.func (.func 22) #[] #[]) rfl rfl (by kernel_rfl) (by kernel_rfl) (by kernel_rfl) (fun _ _ _ h => h) (Or.inl ⟨by rfl, by intro W hW; clear hW; go_simp⟩) hHeld ?_
      simp only [put_laws]
      refine take_at 11 54 (.agg #[.int .i64 1, .int .i64 a]) rfl rfl (by kernel_rfl) (by kernel_rfl) (by kernel_rfl) (fun _ _ _ h => h) (yields_val (by rfl) 25 (.tmp 7) rfl (w1.heap.size) rfl 25 _ _ (fun W h => h.t.x) Tryd.underlying25 val_info) hHeld ?_
      simp only [put_laws]
      refine take_at 12 55 (.agg #[.int .i64 1, .int .i64 b]) rfl rfl (by kernel_rfl) (by kernel_rfl) (by kernel_rfl) (fun _ _ _ h => h) (yields_val (by rfl) 25 (.tmp 8) rfl (w1.heap.size + 1) rfl 25 _ _ (fun W h => h.t.y) Tryd.underlying25 val_info) hHeld ?_
      simp only [put_laws]
      refine take_at 14 57 (.func (.func 22) #[] #[]) rfl rfl (by kernel_rfl) (by kernel_rfl) (by kernel_rfl) (fun _ _ _ h => h) (Or.inl ⟨by rfl, by intro W hW; clear hW; go_simp⟩) hHeld ?_
      simp only [put_laws]
      refine take_at 15 58 (.agg #[.int .i64 1, .int .i64 b]) rfl rfl (by kernel_rfl) (by kernel_rfl) (by kernel_rfl) (fun _ _ _ h => h) (yields_val (by rfl) 25 (.tmp 8) rfl (w1.heap.size + 1) rfl 25 _ _ (fun W h => h.t.y) Tryd.underlying25 val_info) hHeld ?_
      simp only [put_laws]
      refine take_at 16 59 (.agg #[.int .i64 1, .int .i64 a]) rfl rfl (by kernel_rfl) (by kernel_rfl) (by kernel_rfl) (fun _ _ _ h => h) (yields_val (by rfl) 25 (.tmp 7) rfl (w1.heap.size) rfl 25 _ _ (fun W h => h.t.x) Tryd.underlying25 val_info) hHeld ?_
      simp only [put_laws]
      refine wpAnyH_ready (rs := [13]) (by kernel_rfl) (by simp) ?_
      refine AllReadyH.cons rfl (fun K hK => ?_) AllReadyH.nil
      go_simp
      refine (doAdd_val a b P _ HP.out).mono ?_
      rintro e wc56 ⟨rfl, hb⟩
      try go_simp
      have hHeld := hHeld.below hb
      have hsz56 := hb.size
      clear hb
      refine hK.out _ _ hHeld (fun hHeld => ?_)
      clear hK K
      refine wpAnyH_ready (rs := [17]) (by kernel_rfl) (by simp) ?_
      refine AllReadyH.cons rfl (fun K hK => ?_) AllReadyH.nil
      go_simp
      refine (doAdd_val b a P _ HP2.out).mono ?_
      rintro e wc60 ⟨rfl, hb⟩
      try go_simp
      have hHeld := hHeld.below hb
      have hsz60 := hb.size
      clear hb
      refine hK.out _ _ hHeld (fun hHeld => ?_)
      clear hK K
      refine take_at 18 61 (.bool true) rfl rfl (by kernel_rfl) (by kernel_rfl) (by kernel_rfl) (fun _ _ _ h => h) (Or.inl ⟨by rfl, by intro W hW; clear hW; go_simp⟩) hHeld ?_
      simp only [put_laws]
      refine take_at 19 62 (.bool true) rfl rfl (by kernel_rfl) (by kernel_rfl) (by kernel_rfl) (fun _ _ _ h => h) (Or.inl ⟨by rfl, by intro W hW; clear hW; go_simp⟩) hHeld ?_
      simp only [put_laws]
      refine take_at 20 63 (.bool true) rfl rfl (by kernel_rfl) (by kernel_rfl) (by kernel_rfl) (fun _ _ _ h => h) (Or.inl ⟨by rfl, by intro W hW; clear hW; go_simp⟩) hHeld ?_
      simp only [put_laws]
      refine take_at 21 64 (.func (.func 22) #[] #[]) rfl rfl (by kernel_rfl) (by kernel_rfl) (by kernel_rfl) (fun _ _ _ h => h) (Or.inl ⟨by rfl, by intro W hW; clear hW; go_simp⟩) hHeld ?_
      simp only [put_laws]
      refine take_at 22 65 (.agg #[.int .i64 1, .int .i64 a]) rfl rfl (by kernel_rfl) (by kernel_rfl) (by kernel_rfl) (fun _ _ _ h => h) (yields_val (by rfl) 25 (.tmp 7) rfl (w1.heap.size) rfl 25 _ _ (fun W h => h.t.x) Tryd.underlying25 val_info) hHeld ?_
      simp only [put_laws]
      refine take_at 23 66 (.agg #[.int .i64 1, .int .i64 b]) rfl rfl (by kernel_rfl) (by kernel_rfl) (by kernel_rfl) (fun _ _ _ h => h) (yields_val (by rfl) 25 (.tmp 8) rfl (w1.heap.size + 1) rfl 25 _ _ (fun W h => h.t.y) Tryd.underlying25 val_info) hHeld ?_
      simp only [put_laws]
      refine take_at 25 68 (.func (.func 22) #[] #[]) rfl rfl (by kernel_rfl) (by kernel_rfl) (by kernel_rfl) (fun _ _ _ h => h) (Or.inl ⟨by rfl, by intro W hW; clear hW; go_simp⟩) hHeld ?_
      simp only [put_laws]
      refine take_at 26 69 (.agg #[.int .i64 1, .int .i64 b]) rfl rfl (by kernel_rfl) (by kernel_rfl) (by kernel_rfl) (fun _ _ _ h => h) (yields_val (by rfl) 25 (.tmp 8) rfl (w1.heap.size + 1) rfl 25 _ _ (fun W h => h.t.y) Tryd.underlying25 val_info) hHeld ?_
      simp only [put_laws]
      refine take_at 27 70 (.agg #[.int .i64 1, .int .i64 a]) rfl rfl (by kernel_rfl) (by kernel_rfl) (by kernel_rfl) (fun _ _ _ h => h) (yields_val (by rfl) 25 (.tmp 7) rfl (w1.heap.size) rfl 25 _ _ (fun W h => h.t.x) Tryd.underlying25 val_info) hHeld ?_
      simp only [put_laws]
      refine wpAnyH_ready (rs := [24]) (by kernel_rfl) (by simp) ?_
      refine AllReadyH.cons rfl (fun K hK => ?_) AllReadyH.nil
      go_simp
      refine (doMul_val a b Q _ HQ.out).mono ?_
      rintro e wc67 ⟨rfl, hb⟩
      try go_simp
      have hHeld := hHeld.below hb
      have hsz67 := hb.size
      clear hb
      refine hK.out _ _ hHeld (fun hHeld => ?_)
      clear hK K
      refine wpAnyH_ready (rs := [28]) (by kernel_rfl) (by simp) ?_
      refine AllReadyH.cons rfl (fun K hK => ?_) AllReadyH.nil
      go_simp
      refine (doMul_val b a Q _ HQ2.out).mono ?_
      rintro e wc71 ⟨rfl, hb⟩
      try go_simp
      have hHeld := hHeld.below hb
      have hsz71 := hb.size
      clear hb
      refine hK.out _ _ hHeld (fun hHeld => ?_)
      clear hK K
      refine take_at 29 72 (.bool true) rfl rfl (by kernel_rfl) (by kernel_rfl) (by kernel_rfl) (fun _ _ _ h => h) (Or.inl ⟨by rfl, by intro W hW; clear hW; go_simp⟩) hHeld ?_
      simp only [put_laws]
      refine take_at 30 73 (.bool true) rfl rfl (by kernel_rfl) (by kernel_rfl) (by kernel_rfl) (fun _ _ _ h => h) (Or.inl ⟨by rfl, by intro W hW; clear hW; go_simp⟩) hHeld ?_
      simp only [put_laws]
      refine take_at 31 74 (.bool true) rfl rfl (by kernel_rfl) (by kernel_rfl) (by kernel_rfl) (fun _ _ _ h => h) (Or.inl ⟨by rfl, by intro W hW; clear hW; go_simp⟩) hHeld ?_
      simp only [put_laws]
      refine take_at 32 75 (.agg #[.int .i64 1, .int .i64 X]) rfl rfl (by kernel_rfl) (by kernel_rfl) (by kernel_rfl) (fun _ _ _ h => h) (yields_val (by rfl) 25 (.tmp 15) rfl (g) rfl 25 _ _ (fun W h => h.s) Tryd.underlying25 val_info) hHeld ?_
      simp only [put_laws]
      refine take_at 33 76 (.func (.func 22) #[] #[]) rfl rfl (by kernel_rfl) (by kernel_rfl) (by kernel_rfl) (fun _ _ _ h => h) (Or.inl ⟨by rfl, by intro W hW; clear hW; go_simp⟩) hHeld ?_
      simp only [put_laws]
      refine take_at 34 77 (.func (.func 22) #[] #[]) rfl rfl (by kernel_rfl) (by kernel_rfl) (by kernel_rfl) (fun _ _ _ h => h) (Or.inl ⟨by rfl, by intro W hW; clear hW; go_simp⟩) hHeld ?_
      simp only [put_laws]
      refine take_at 35 78 (.agg #[.int .i64 1, .int .i64 a]) rfl rfl (by kernel_rfl) (by kernel_rfl) (by kernel_rfl) (fun _ _ _ h => h) (yields_val (by rfl) 25 (.tmp 7) rfl (w1.heap.size) rfl 25 _ _ (fun W h => h.t.x) Tryd.underlying25 val_info) hHeld ?_
      simp only [put_laws]
      refine take_at 36 79 (.agg #[.int .i64 1, .int .i64 b]) rfl rfl (by kernel_rfl) (by kernel_rfl) (by kernel_rfl) (fun _ _ _ h => h) (yields_val (by rfl) 25 (.tmp 8) rfl (w1.heap.size + 1) rfl 25 _ _ (fun W h => h.t.y) Tryd.underlying25 val_info) hHeld ?_
      simp only [put_laws]
      refine take_at 38 81 (.func (.func 22) #[] #[]) rfl rfl (by kernel_rfl) (by kernel_rfl) (by kernel_rfl) (fun _ _ _ h => h) (Or.inl ⟨by rfl, by intro W hW; clear hW; go_simp⟩) hHeld ?_
      simp only [put_laws]
      refine take_at 39 82 (.agg #[.int .i64 1, .int .i64 a]) rfl rfl (by kernel_rfl) (by kernel_rfl) (by kernel_rfl) (fun _ _ _ h => h) (yields_val (by rfl) 25 (.tmp 7) rfl (w1.heap.size) rfl 25 _ _ (fun W h => h.t.x) Tryd.underlying25 val_info) hHeld ?_
      simp only [put_laws]
      refine take_at 40 83 (.agg #[.int .i64 1, .int .i64 c]) rfl rfl (by kernel_rfl) (by kernel_rfl) (by kernel_rfl) (fun _ _ _ h => h) (yields_val (by rfl) 25 (.tmp 9) rfl (w1.heap.size + 1 + 1) rfl 25 _ _ (fun W h => h.t.z) Tryd.underlying25 val_info) hHeld ?_
      simp only [put_laws]
      refine wpAnyH_ready (rs := [37]) (by kernel_rfl) (by simp) ?_
      refine AllReadyH.cons rfl (fun K hK => ?_) AllReadyH.nil
      go_simp
      refine (doMul_val a b Q _ HQ.out).mono ?_
      rintro e wc80 ⟨rfl, hb⟩
      try go_simp
      have hHeld := hHeld.below hb
      have hsz80 := hb.size
      clear hb
      refine hK.out _ _ hHeld (fun hHeld => ?_)
      clear hK K
      refine wpAnyH_ready (rs := [41]) (by kernel_rfl) (by simp) ?_
      refine AllReadyH.cons rfl (fun K hK => ?_) AllReadyH.nil
      go_simp
      refine (doMul_val a c R _ HR.out).mono ?_
      rintro e wc84 ⟨rfl, hb⟩
      try go_simp
      have hHeld := hHeld.below hb
      have hsz84 := hb.size
      clear hb
      refine hK.out _ _ hHeld (fun hHeld => ?_)
      clear hK K
      refine wpAnyH_ready (rs := [42]) (by kernel_rfl) (by simp) ?_
      refine AllReadyH.cons rfl (fun K hK => ?_) AllReadyH.nil
      go_simp
      refine (doAdd_val Q R X _ HS.out).mono ?_
      rintro e wc85 ⟨rfl, hb⟩
      try go_simp
      have hHeld := hHeld.below hb
      have hsz85 := hb.size
      clear hb
      refine hK.out _ _ hHeld (fun hHeld => ?_)
      clear hK K
      refine take_at 43 86 (.bool true) rfl rfl (by kernel_rfl) (by kernel_rfl) (by kernel_rfl) (fun _ _ _ h => h) (Or.inl ⟨by rfl, by intro W hW; clear hW; go_simp⟩) hHeld ?_
      simp only [put_laws]
      refine take_at 44 87 (.bool true) rfl rfl (by kernel_rfl) (by kernel_rfl) (by kernel_rfl) (fun _ _ _ h => h) (Or.inl ⟨by rfl, by intro W hW; clear hW; go_simp⟩) hHeld ?_
      simp only [put_laws]
      refine take_at 45 88 (.bool true) rfl rfl (by kernel_rfl) (by kernel_rfl) (by kernel_rfl) (fun _ _ _ h => h) (Or.inl ⟨by rfl, by intro W hW; clear hW; go_simp⟩) hHeld ?_
      simp only [put_laws]
      refine take_at 46 89 (.int .i64 0) rfl rfl (by kernel_rfl) (by kernel_rfl) (by kernel_rfl) (fun _ _ _ h => h) (Or.inl ⟨by rfl, by intro W hW; clear hW; go_simp⟩) hHeld ?_
      simp only [put_laws]
      refine take_at 47 90 (.bool true) rfl rfl (by kernel_rfl) (by kernel_rfl) (by kernel_rfl) (fun _ _ _ h => h) (Or.inl ⟨by rfl, by intro W hW; clear hW; go_simp⟩) hHeld ?_
      simp only [put_laws]
      refine take_at 48 91 (.bool true) rfl rfl (by kernel_rfl) (by kernel_rfl) (by kernel_rfl) (fun _ _ _ h => h) (Or.inl ⟨by rfl, by intro W hW; clear hW; go_simp⟩) hHeld ?_
      simp only [put_laws]
      refine take_at 49 92 (.bool true) rfl rfl (by kernel_rfl) (by kernel_rfl) (by kernel_rfl) (fun _ _ _ h => h) (Or.inl ⟨by rfl, by intro W hW; clear hW; go_simp⟩) hHeld ?_
      simp only [put_laws]
      refine take_at 50 93 (.int .i64 0) rfl rfl (by kernel_rfl) (by kernel_rfl) (by kernel_rfl) (fun _ _ _ h => h) (Or.inl ⟨by rfl, by intro W hW; clear hW; go_simp⟩) hHeld ?_
      simp only [put_laws]
      refine take_at 51 94 (.bool true) rfl rfl (by kernel_rfl) (by kernel_rfl) (by kernel_rfl) (fun _ _ _ h => h) (Or.inl ⟨by rfl, by intro W hW; clear hW; go_simp⟩) hHeld ?_
      simp only [put_laws]
      refine take_at 52 95 (.bool true) rfl rfl (by kernel_rfl) (by kernel_rfl) (by kernel_rfl) (fun _ _ _ h => h) (Or.inl ⟨by rfl, by intro W hW; clear hW; go_simp⟩) hHeld ?_
      simp only [put_laws]
      refine take_at 53 96 (.bool true) rfl rfl (by kernel_rfl) (by kernel_rfl) (by kernel_rfl) (fun _ _ _ h => h) (Or.inl ⟨by rfl, by intro W hW; clear hW; go_simp⟩) hHeld ?_
      simp only [put_laws]
      refine take_at 54 97 (.bool true) rfl rfl (by kernel_rfl) (by kernel_rfl) (by kernel_rfl) (fun _ _ _ h => h) (Or.inl ⟨by rfl, by intro W hW; clear hW; go_simp⟩) hHeld ?_
      simp only [put_laws]
      refine take_at 55 98 (.bool true) rfl rfl (by kernel_rfl) (by kernel_rfl) (by kernel_rfl) (fun _ _ _ h => h) (Or.inl ⟨by rfl, by intro W hW; clear hW; go_simp⟩) hHeld ?_
      simp only [put_laws]
      refine take_at 56 99 undef rfl rfl (by kernel_rfl) (by kernel_rfl) (by kernel_rfl) (fun _ _ _ h => h) (Or.inr ⟨by rfl, rfl⟩) hHeld ?_
      simp only [put_laws]
      refine take_at 57 100 (.bool true) rfl rfl (by kernel_rfl) (by kernel_rfl) (by kernel_rfl) (fun _ _ _ h => h) (Or.inl ⟨by rfl, by intro W hW; clear hW; go_simp⟩) hHeld ?_
      simp only [put_laws]
      refine take_at 58 101 (.int .i64 a) rfl rfl (by kernel_rfl) (by kernel_rfl) (by kernel_rfl) (fun _ _ _ h => h) (Or.inl ⟨by rfl, by intro W hW; clear hW; go_simp⟩) hHeld ?_
      simp only [put_laws]
      refine take_at 59 102 (.int .i64 b) rfl rfl (by kernel_rfl) (by kernel_rfl) (by kernel_rfl) (fun _ _ _ h => h) (Or.inl ⟨by rfl, by intro W hW; clear hW; go_simp⟩) hHeld ?_
      simp only [put_laws]
      refine take_at 60 103 (.bool true) rfl rfl (by kernel_rfl) (by kernel_rfl) (by kernel_rfl) (fun _ _ _ h => h) (Or.inl ⟨by rfl, by intro W hW; have hd : (a = b) = False := (by have := Hd.out; simpa using this); clear hW; go_simp⟩) hHeld ?_
      simp only [put_laws]
      refine take_at 61 104 (.bool true) rfl rfl (by kernel_rfl) (by kernel_rfl) (by kernel_rfl) (fun _ _ _ h => h) (Or.inl ⟨by rfl, by intro W hW; clear hW; go_simp⟩) hHeld ?_
      simp only [put_laws]
      refine take_at 62 105 (.bool true) rfl rfl (by kernel_rfl) (by kernel_rfl) (by kernel_rfl) (fun _ _ _ h => h) (Or.inl ⟨by rfl, by intro W hW; clear hW; go_simp⟩) hHeld ?_
      simp only [put_laws]
      refine take_at 63 106 (.bool true) rfl rfl (by kernel_rfl) (by kernel_rfl) (by kernel_rfl) (fun _ _ _ h => h) (Or.inl ⟨by rfl, by intro W hW; clear hW; go_simp⟩) hHeld ?_
      simp only [put_laws]
      refine take_at 64 107 (.bool true) rfl rfl (by kernel_rfl) (by kernel_rfl) (by kernel_rfl) (fun _ _ _ h => h) (Or.inl ⟨by rfl, by intro W hW; clear hW; go_simp⟩) hHeld ?_
      simp only [put_laws]
      refine take_at 65 108 (.bool true) rfl rfl (by kernel_rfl) (by kernel_rfl) (by kernel_rfl) (fun _ _ _ h => h) (Or.inl ⟨by rfl, by intro W hW; clear hW; go_simp⟩) hHeld ?_
      simp only [put_laws]
      refine take_at 66 109 (.bool false) rfl rfl (by kernel_rfl) (by kernel_rfl) (by kernel_rfl) (fun _ _ _ h => h) (Or.inl ⟨by rfl, by intro W hW; clear hW; go_simp⟩) hHeld ?_
      simp only [put_laws]
      refine take_at 67 110 (.bool false) rfl rfl (by kernel_rfl) (by kernel_rfl) (by kernel_rfl) (fun _ _ _ h => h) (Or.inl ⟨by rfl, by intro W hW; clear hW; go_simp⟩) hHeld ?_
      simp only [put_laws]
      refine take_at 68 111 (.bool true) rfl rfl (by kernel_rfl) (by kernel_rfl) (by kernel_rfl) (fun _ _ _ h => h) (Or.inl ⟨by rfl, by intro W hW; clear hW; go_simp⟩) hHeld ?_
      simp only [put_laws]
      refine take_at 69 112 (.bool true) rfl rfl (by kernel_rfl) (by kernel_rfl) (by kernel_rfl) (fun _ _ _ h => h) (Or.inl ⟨by rfl, by intro W hW; clear hW; go_simp⟩) hHeld ?_
      simp only [put_laws]
      refine take_at 70 6 (.bool true) rfl rfl (by kernel_rfl) (by kernel_rfl) (by kernel_rfl) (fun _ _ _ h => h) (Or.inl ⟨by rfl, by intro W hW; clear hW; go_simp⟩) hHeld ?_
      simp only [put_laws]
      refine wpAnyH_done (by kernel_rfl) ?_ _
      refine NoPanic.normal ?_
      go_wp2
      go_ret
      exact ⟨rfl, hHeld.t.bel⟩
    · go_wp2_with fail
      refine wp_region_noPanic ?_
      refine region_start (S := Four w w1.heap.size a b c g X) 71 rfl (by kernel_rfl) (H4.out.below (below_drew _)) (fun hHeld => ?_)
      refine take_at 0 43 (.func (.func 22) #[] #[]) rfl rfl (by kernel_rfl) (by kernel_rfl) (by kernel_rfl) (fun _ _ _ h => h) (Or.inl ⟨by rfl, by intro W hW; clear hW; go_simp⟩) hHeld ?_
      simp only [put_laws]
      refine take_at 1 44 (.func (.func 22) #[] #[]) rfl rfl (by kernel_rfl) (by kernel_rfl) (by kernel_rfl) (fun _ _ _ h => h) (Or.inl ⟨by rfl, by intro W hW; clear hW; go_simp⟩) hHeld ?_
      simp only [put_laws]
      refine take_at 2 45 (.agg #[.int .i64 1, .int .i64 a]) rfl rfl (by kernel_rfl) (by kernel_rfl) (by kernel_rfl) (fun _ _ _ h => h) (yields_val (by rfl) 25 (.tmp 7) rfl (w1.heap.size) rfl 25 _ _ (fun W h => h.t.x) Tryd.underlying25 val_info) hHeld ?_
      simp only [put_laws]
      refine take_at 3 46 (.agg #[.int .i64 1, .int .i64 b]) rfl rfl (by kernel_rfl) (by kernel_rfl) (by kernel_rfl) (fun _ _ _ h => h) (yields_val (by rfl) 25 (.tmp 8) rfl (w1.heap.size + 1) rfl 25 _ _ (fun W h => h.t.y) Tryd.underlying25 val_info) hHeld ?_
      simp only [put_laws]
      refine take_at 5 48 (.agg #[.int .i64 1, .int .i64 b]) rfl rfl (by kernel_rfl) (by kernel_rfl) (by kernel_rfl) (fun _ _ _ h => h) (yields_val (by rfl) 25 (.tmp 8) rfl (w1.heap.size + 1) rfl 25 _ _ (fun W h => h.t.y) Tryd.underlying25 val_info) hHeld ?_
      simp only [put_laws]
      refine take_at 7 50 (.agg #[.int .i64 1, .int .i64 a]) rfl rfl (by kernel_rfl) (by kernel_rfl) (by kernel_rfl) (fun _ _ _ h => h) (yields_val (by rfl) 25 (.tmp 7) rfl (w1.heap.size) rfl 25 _ _ (fun W h => h.t.x) Tryd.underlying25 val_info) hHeld ?_
      simp only [put_laws]
      refine wpAnyH_ready (rs := [4]) (by kernel_rfl) (by simp) ?_
      refine AllReadyH.cons rfl (fun K hK => ?_) AllReadyH.nil
      go_simp
      refine (doAdd_val a b P _ HP.out).mono ?_
      rintro e wc47 ⟨rfl, hb⟩
      try go_simp
      have hHeld := hHeld.below hb
      have hsz47 := hb.size
      clear hb
      refine hK.out _ _ hHeld (fun hHeld => ?_)
      clear hK K
      refine wpAnyH_ready (rs := [6]) (by kernel_rfl) (by simp) ?_
      refine AllReadyH.cons rfl (fun K hK => ?_) AllReadyH.nil
      go_simp
      refine (doSub_val P b a _ HPs.out).mono ?_
      rintro e wc49 ⟨rfl, hb⟩
      try go_simp
      have hHeld := hHeld.below hb
      have hsz49 := hb.size
      clear hb
      refine hK.out _ _ hHeld (fun hHeld => ?_)
      clear hK K
      refine take_at 8 51 (.bool true) rfl rfl (by kernel_rfl) (by kernel_rfl) (by kernel_rfl) (fun _ _ _ h => h) (Or.inl ⟨by rfl, by intro W hW; clear hW; go_simp⟩) hHeld ?_
      simp only [put_laws]
      refine take_at 9 52 (.bool true) rfl rfl (by kernel_rfl) (by kernel_rfl) (by kernel_rfl) (fun _ _ _ h => h) (Or.inl ⟨by rfl, by intro W hW; clear hW; go_simp⟩) hHeld ?_
      simp only [put_laws]
      refine take_at 10 53 (.func (.func 22) #[] #[]) rfl rfl (by kernel_rfl) (by kernel_rfl) (by kernel_rfl) (fun _ _ _ h => h) (Or.inl ⟨by rfl, by intro W hW; clear hW; go_simp⟩) hHeld ?_
      simp only [put_laws]
      refine take_at 11 54 (.agg #[.int .i64 1, .int .i64 a]) rfl rfl (by kernel_rfl) (by kernel_rfl) (by kernel_rfl) (fun _ _ _ h => h) (yields_val (by rfl) 25 (.tmp 7) rfl (w1.heap.size) rfl 25 _ _ (fun W h => h.t.x) Tryd.underlying25 val_info) hHeld ?_
      simp only [put_laws]
      refine take_at 12 55 (.agg #[.int .i64 1, .int .i64 b]) rfl rfl (by kernel_rfl) (by kernel_rfl) (by kernel_rfl) (fun _ _ _ h => h) (yields_val (by rfl) 25 (.tmp 8) rfl (w1.heap.size + 1) rfl 25 _ _ (fun W h => h.t.y) Tryd.underlying25 val_info) hHeld ?_
      simp only [put_laws]
      refine take_at 14 57 (.func (.func 22) #[] #[]) rfl rfl (by kernel_rfl) (by kernel_rfl) (by kernel_rfl) (fun _ _ _ h => h) (Or.inl ⟨by rfl, by intro W hW; clear hW; go_simp⟩) hHeld ?_
      simp only [put_laws]
      refine take_at 15 58 (.agg #[.int .i64 1, .int .i64 b]) rfl rfl (by kernel_rfl) (by kernel_rfl) (by kernel_rfl) (fun _ _ _ h => h) (yields_val (by rfl) 25 (.tmp 8) rfl (w1.heap.size + 1) rfl 25 _ _ (fun W h => h.t.y) Tryd.underlying25 val_info) hHeld ?_
      simp only [put_laws]
      refine take_at 16 59 (.agg #[.int .i64 1, .int .i64 a]) rfl rfl (by kernel_rfl) (by kernel_rfl) (by kernel_rfl) (fun _ _ _ h => h) (yields_val (by rfl) 25 (.tmp 7) rfl (w1.heap.size) rfl 25 _ _ (fun W h => h.t.x) Tryd.underlying25 val_info) hHeld ?_
      simp only [put_laws]
      refine wpAnyH_ready (rs := [13]) (by kernel_rfl) (by simp) ?_
      refine AllReadyH.cons rfl (fun K hK => ?_) AllReadyH.nil
      go_simp
      refine (doAdd_val a b P _ HP.out).mono ?_
      rintro e wc56 ⟨rfl, hb⟩
      try go_simp
      have hHeld := hHeld.below hb
      have hsz56 := hb.size
      clear hb
      refine hK.out _ _ hHeld (fun hHeld => ?_)
      clear hK K
      refine wpAnyH_ready (rs := [17]) (by kernel_rfl) (by simp) ?_
      refine AllReadyH.cons rfl (fun K hK => ?_) AllReadyH.nil
      go_simp
      refine (doAdd_val b a P _ HP2.out).mono ?_
      rintro e wc60 ⟨rfl, hb⟩
      try go_simp
      have hHeld := hHeld.below hb
      have hsz60 := hb.size
      clear hb
      refine hK.out _ _ hHeld (fun hHeld => ?_)
      clear hK K
      refine take_at 18 61 (.bool true) rfl rfl (by kernel_rfl) (by kernel_rfl) (by kernel_rfl) (fun _ _ _ h => h) (Or.inl ⟨by rfl, by intro W hW; clear hW; go_simp⟩) hHeld ?_
      simp only [put_laws]
      refine take_at 19 62 (.bool true) rfl rfl (by kernel_rfl) (by kernel_rfl) (by kernel_rfl) (fun _ _ _ h => h) (Or.inl ⟨by rfl, by intro W hW; clear hW; go_simp⟩) hHeld ?_
      simp only [put_laws]
      refine take_at 20 63 (.bool true) rfl rfl (by kernel_rfl) (by kernel_rfl) (by kernel_rfl) (fun _ _ _ h => h) (Or.inl ⟨by rfl, by intro W hW; clear hW; go_simp⟩) hHeld ?_
      simp only [put_laws]
      refine take_at 21 64 (.func (.func 22) #[] #[]) rfl rfl (by kernel_rfl) (by kernel_rfl) (by kernel_rfl) (fun _ _ _ h => h) (Or.inl ⟨by rfl, by intro W hW; clear hW; go_simp⟩) hHeld ?_
      simp only [put_laws]
      refine take_at 22 65 (.agg #[.int .i64 1, .int .i64 a]) rfl rfl (by kernel_rfl) (by kernel_rfl) (by kernel_rfl) (fun _ _ _ h => h) (yields_val (by rfl) 25 (.tmp 7) rfl (w1.heap.size) rfl 25 _ _ (fun W h => h.t.x) Tryd.underlying25 val_info) hHeld ?_
      simp only [put_laws]
      refine take_at 23 66 (.agg #[.int .i64 1, .int .i64 b]) rfl rfl (by kernel_rfl) (by kernel_rfl) (by kernel_rfl) (fun _ _ _ h => h) (yields_val (by rfl) 25 (.tmp 8) rfl (w1.heap.size + 1) rfl 25 _ _ (fun W h => h.t.y) Tryd.underlying25 val_info) hHeld ?_
      simp only [put_laws]
      refine take_at 25 68 (.func (.func 22) #[] #[]) rfl rfl (by kernel_rfl) (by kernel_rfl) (by kernel_rfl) (fun _ _ _ h => h) (Or.inl ⟨by rfl, by intro W hW; clear hW; go_simp⟩) hHeld ?_
      simp only [put_laws]
      refine take_at 26 69 (.agg #[.int .i64 1, .int .i64 b]) rfl rfl (by kernel_rfl) (by kernel_rfl) (by kernel_rfl) (fun _ _ _ h => h) (yields_val (by rfl) 25 (.tmp 8) rfl (w1.heap.size + 1) rfl 25 _ _ (fun W h => h.t.y) Tryd.underlying25 val_info) hHeld ?_
      simp only [put_laws]
      refine take_at 27 70 (.agg #[.int .i64 1, .int .i64 a]) rfl rfl (by kernel_rfl) (by kernel_rfl) (by kernel_rfl) (fun _ _ _ h => h) (yields_val (by rfl) 25 (.tmp 7) rfl (w1.heap.size) rfl 25 _ _ (fun W h => h.t.x) Tryd.underlying25 val_info) hHeld ?_
      simp only [put_laws]
      refine wpAnyH_ready (rs := [24]) (by kernel_rfl) (by simp) ?_
      refine AllReadyH.cons rfl (fun K hK => ?_) AllReadyH.nil
      go_simp
      refine (doMul_val a b Q _ HQ.out).mono ?_
      rintro e wc67 ⟨rfl, hb⟩
      try go_simp
      have hHeld := hHeld.below hb
      have hsz67 := hb.size
      clear hb
      refine hK.out _ _ hHeld (fun hHeld => ?_)
      clear hK K
      refine wpAnyH_ready (rs := [28]) (by kernel_rfl) (by simp) ?_
      refine AllReadyH.cons rfl (fun K hK => ?_) AllReadyH.nil
      go_simp
      refine (doMul_val b a Q _ HQ2.out).mono ?_
      rintro e wc71 ⟨rfl, hb⟩
      try go_simp
      have hHeld := hHeld.below hb
      have hsz71 := hb.size
      clear hb
      refine hK.out _ _ hHeld (fun hHeld => ?_)
      clear hK K
      refine take_at 29 72 (.bool true) rfl rfl (by kernel_rfl) (by kernel_rfl) (by kernel_rfl) (fun _ _ _ h => h) (Or.inl ⟨by rfl, by intro W hW; clear hW; go_simp⟩) hHeld ?_
      simp only [put_laws]
      refine take_at 30 73 (.bool true) rfl rfl (by kernel_rfl) (by kernel_rfl) (by kernel_rfl) (fun _ _ _ h => h) (Or.inl ⟨by rfl, by intro W hW; clear hW; go_simp⟩) hHeld ?_
      simp only [put_laws]
      refine take_at 31 74 (.bool true) rfl rfl (by kernel_rfl) (by kernel_rfl) (by kernel_rfl) (fun _ _ _ h => h) (Or.inl ⟨by rfl, by intro W hW; clear hW; go_simp⟩) hHeld ?_
      simp only [put_laws]
      refine take_at 32 75 (.agg #[.int .i64 1, .int .i64 X]) rfl rfl (by kernel_rfl) (by kernel_rfl) (by kernel_rfl) (fun _ _ _ h => h) (yields_val (by rfl) 25 (.tmp 15) rfl (g) rfl 25 _ _ (fun W h => h.s) Tryd.underlying25 val_info) hHeld ?_
      simp only [put_laws]
      refine take_at 33 76 (.func (.func 22) #[] #[]) rfl rfl (by kernel_rfl) (by kernel_rfl) (by kernel_rfl) (fun _ _ _ h => h) (Or.inl ⟨by rfl, by intro W hW; clear hW; go_simp⟩) hHeld ?_
      simp only [put_laws]
      refine take_at 34 77 (.func (.func 22) #[] #[]) rfl rfl (by kernel_rfl) (by kernel_rfl) (by kernel_rfl) (fun _ _ _ h => h) (Or.inl ⟨by rfl, by intro W hW; clear hW; go_simp⟩) hHeld ?_
      simp only [put_laws]
      refine take_at 35 78 (.agg #[.int .i64 1, .int .i64 a]) rfl rfl (by kernel_rfl) (by kernel_rfl) (by kernel_rfl) (fun _ _ _ h => h) (yields_val (by rfl) 25 (.tmp 7) rfl (w1.heap.size) rfl 25 _ _ (fun W h => h.t.x) Tryd.underlying25 val_info) hHeld ?_
      simp only [put_laws]
      refine take_at 36 79 (.agg #[.int .i64 1, .int .i64 b]) rfl rfl (by kernel_rfl) (by kernel_rfl) (by kernel_rfl) (fun _ _ _ h => h) (yields_val (by rfl) 25 (.tmp 8) rfl (w1.heap.size + 1) rfl 25 _ _ (fun W h => h.t.y) Tryd.underlying25 val_info) hHeld ?_
      simp only [put_laws]
      refine take_at 38 81 (.func (.func 22) #[] #[]) rfl rfl (by kernel_rfl) (by kernel_rfl) (by kernel_rfl) (fun _ _ _ h => h) (Or.inl ⟨by rfl, by intro W hW; clear hW; go_simp⟩) hHeld ?_
      simp only [put_laws]
      refine take_at 39 82 (.agg #[.int .i64 1, .int .i64 a]) rfl rfl (by kernel_rfl) (by kernel_rfl) (by kernel_rfl) (fun _ _ _ h => h) (yields_val (by rfl) 25 (.tmp 7) rfl (w1.heap.size) rfl 25 _ _ (fun W h => h.t.x) Tryd.underlying25 val_info) hHeld ?_
      simp only [put_laws]
      refine take_at 40 83 (.agg #[.int .i64 1, .int .i64 c]) rfl rfl (by kernel_rfl) (by kernel_rfl) (by kernel_rfl) (fun _ _ _ h => h) (yields_val (by rfl) 25 (.tmp 9) rfl (w1.heap.size + 1 + 1) rfl 25 _ _ (fun W h => h.t.z) Tryd.underlying25 val_info) hHeld ?_
      simp only [put_laws]
      refine wpAnyH_ready (rs := [37]) (by kernel_rfl) (by simp) ?_
      refine AllReadyH.cons rfl (fun K hK => ?_) AllReadyH.nil
      go_simp
      refine (doMul_val a b Q _ HQ.out).mono ?_
      rintro e wc80 ⟨rfl, hb⟩
      try go_simp
      have hHeld := hHeld.below hb
      have hsz80 := hb.size
      clear hb
      refine hK.out _ _ hHeld (fun hHeld => ?_)
      clear hK K
      refine wpAnyH_ready (rs := [41]) (by kernel_rfl) (by simp) ?_
      refine AllReadyH.cons rfl (fun K hK => ?_) AllReadyH.nil
      go_simp
      refine (doMul_val a c R _ HR.out).mono ?_
      rintro e wc84 ⟨rfl, hb⟩
      try go_simp
      have hHeld := hHeld.below hb
      have hsz84 := hb.size
      clear hb
      refine hK.out _ _ hHeld (fun hHeld => ?_)
      clear hK K
      refine wpAnyH_ready (rs := [42]) (by kernel_rfl) (by simp) ?_
      refine AllReadyH.cons rfl (fun K hK => ?_) AllReadyH.nil
      go_simp
      refine (doAdd_val Q R X _ HS.out).mono ?_
      rintro e wc85 ⟨rfl, hb⟩
      try go_simp
      have hHeld := hHeld.below hb
      have hsz85 := hb.size
      clear hb
      refine hK.out _ _ hHeld (fun hHeld => ?_)
      clear hK K
      refine take_at 43 86 (.bool true) rfl rfl (by kernel_rfl) (by kernel_rfl) (by kernel_rfl) (fun _ _ _ h => h) (Or.inl ⟨by rfl, by intro W hW; clear hW; go_simp⟩) hHeld ?_
      simp only [put_laws]
      refine take_at 44 87 (.bool true) rfl rfl (by kernel_rfl) (by kernel_rfl) (by kernel_rfl) (fun _ _ _ h => h) (Or.inl ⟨by rfl, by intro W hW; clear hW; go_simp⟩) hHeld ?_
      simp only [put_laws]
      refine take_at 45 88 (.bool true) rfl rfl (by kernel_rfl) (by kernel_rfl) (by kernel_rfl) (fun _ _ _ h => h) (Or.inl ⟨by rfl, by intro W hW; clear hW; go_simp⟩) hHeld ?_
      simp only [put_laws]
      refine take_at 46 89 (.int .i64 0) rfl rfl (by kernel_rfl) (by kernel_rfl) (by kernel_rfl) (fun _ _ _ h => h) (Or.inl ⟨by rfl, by intro W hW; clear hW; go_simp⟩) hHeld ?_
      simp only [put_laws]
      refine take_at 47 90 (.bool true) rfl rfl (by kernel_rfl) (by kernel_rfl) (by kernel_rfl) (fun _ _ _ h => h) (Or.inl ⟨by rfl, by intro W hW; clear hW; go_simp⟩) hHeld ?_
      simp only [put_laws]
      refine take_at 48 91 (.bool true) rfl rfl (by kernel_rfl) (by kernel_rfl) (by kernel_rfl) (fun _ _ _ h => h) (Or.inl ⟨by rfl, by intro W hW; clear hW; go_simp⟩) hHeld ?_
      simp only [put_laws]
      refine take_at 49 92 (.bool true) rfl rfl (by kernel_rfl) (by kernel_rfl) (by kernel_rfl) (fun _ _ _ h => h) (Or.inl ⟨by rfl, by intro W hW; clear hW; go_simp⟩) hHeld ?_
      simp only [put_laws]
      refine take_at 50 93 (.int .i64 0) rfl rfl (by kernel_rfl) (by kernel_rfl) (by kernel_rfl) (fun _ _ _ h => h) (Or.inl ⟨by rfl, by intro W hW; clear hW; go_simp⟩) hHeld ?_
      simp only [put_laws]
      refine take_at 51 94 (.bool true) rfl rfl (by kernel_rfl) (by kernel_rfl) (by kernel_rfl) (fun _ _ _ h => h) (Or.inl ⟨by rfl, by intro W hW; clear hW; go_simp⟩) hHeld ?_
      simp only [put_laws]
      refine take_at 52 95 (.bool true) rfl rfl (by kernel_rfl) (by kernel_rfl) (by kernel_rfl) (fun _ _ _ h => h) (Or.inl ⟨by rfl, by intro W hW; clear hW; go_simp⟩) hHeld ?_
      simp only [put_laws]
      refine take_at 53 96 (.bool true) rfl rfl (by kernel_rfl) (by kernel_rfl) (by kernel_rfl) (fun _ _ _ h => h) (Or.inl ⟨by rfl, by intro W hW; clear hW; go_simp⟩) hHeld ?_
      simp only [put_laws]
      refine take_at 54 97 (.bool false) rfl rfl (by kernel_rfl) (by kernel_rfl) (by kernel_rfl) (fun _ _ _ h => h) (Or.inl ⟨by rfl, by intro W hW; clear hW; go_simp⟩) hHeld ?_
      simp only [put_laws]
      refine take_at 55 98 (.bool false) rfl rfl (by kernel_rfl) (by kernel_rfl) (by kernel_rfl) (fun _ _ _ h => h) (Or.inl ⟨by rfl, by intro W hW; clear hW; go_simp⟩) hHeld ?_
      simp only [put_laws]
      refine take_at 56 99 (.bool false) rfl rfl (by kernel_rfl) (by kernel_rfl) (by kernel_rfl) (fun _ _ _ h => h) (Or.inl ⟨by rfl, by intro W hW; clear hW; go_simp⟩) hHeld ?_
      simp only [put_laws]
      refine take_at 57 100 (.bool false) rfl rfl (by kernel_rfl) (by kernel_rfl) (by kernel_rfl) (fun _ _ _ h => h) (Or.inl ⟨by rfl, by intro W hW; clear hW; go_simp⟩) hHeld ?_
      simp only [put_laws]
      refine take_at 58 101 (.int .i64 a) rfl rfl (by kernel_rfl) (by kernel_rfl) (by kernel_rfl) (fun _ _ _ h => h) (Or.inl ⟨by rfl, by intro W hW; clear hW; go_simp⟩) hHeld ?_
      simp only [put_laws]
      refine take_at 59 102 (.int .i64 b) rfl rfl (by kernel_rfl) (by kernel_rfl) (by kernel_rfl) (fun _ _ _ h => h) (Or.inl ⟨by rfl, by intro W hW; clear hW; go_simp⟩) hHeld ?_
      simp only [put_laws]
      refine take_at 60 103 (.bool false) rfl rfl (by kernel_rfl) (by kernel_rfl) (by kernel_rfl) (fun _ _ _ h => h) (Or.inl ⟨by rfl, by intro W hW; have hd : (a = b) = True := (by have := Hd.out; simpa using this); clear hW; go_simp⟩) hHeld ?_
      simp only [put_laws]
      refine take_at 61 104 (.bool true) rfl rfl (by kernel_rfl) (by kernel_rfl) (by kernel_rfl) (fun _ _ _ h => h) (Or.inl ⟨by rfl, by intro W hW; clear hW; go_simp⟩) hHeld ?_
      simp only [put_laws]
      refine take_at 62 105 (.bool true) rfl rfl (by kernel_rfl) (by kernel_rfl) (by kernel_rfl) (fun _ _ _ h => h) (Or.inl ⟨by rfl, by intro W hW; clear hW; go_simp⟩) hHeld ?_
      simp only [put_laws]
      refine take_at 63 106 (.bool true) rfl rfl (by kernel_rfl) (by kernel_rfl) (by kernel_rfl) (fun _ _ _ h => h) (Or.inl ⟨by rfl, by intro W hW; clear hW; go_simp⟩) hHeld ?_
      simp only [put_laws]
      refine take_at 64 107 (.bool false) rfl rfl (by kernel_rfl) (by kernel_rfl) (by kernel_rfl) (fun _ _ _ h => h) (Or.inl ⟨by rfl, by intro W hW; clear hW; go_simp⟩) hHeld ?_
      simp only [put_laws]
      refine take_at 65 108 (.bool false) rfl rfl (by kernel_rfl) (by kernel_rfl) (by kernel_rfl) (fun _ _ _ h => h) (Or.inl ⟨by rfl, by intro W hW; clear hW; go_simp⟩) hHeld ?_
      simp only [put_laws]
      refine take_at 66 109 undef rfl rfl (by kernel_rfl) (by kernel_rfl) (by kernel_rfl) (fun _ _ _ h => h) (Or.inr ⟨by rfl, rfl⟩) hHeld ?_
      simp only [put_laws]
      refine take_at 67 110 (.bool false) rfl rfl (by kernel_rfl) (by kernel_rfl) (by kernel_rfl) (fun _ _ _ h => h) (Or.inl ⟨by rfl, by intro W hW; clear hW; go_simp⟩) hHeld ?_
      simp only [put_laws]
      refine take_at 68 111 (.bool true) rfl rfl (by kernel_rfl) (by kernel_rfl) (by kernel_rfl) (fun _ _ _ h => h) (Or.inl ⟨by rfl, by intro W hW; clear hW; go_simp⟩) hHeld ?_
      simp only [put_laws]
      refine take_at 69 112 (.bool true) rfl rfl (by kernel_rfl) (by kernel_rfl) (by kernel_rfl) (fun _ _ _ h => h) (Or.inl ⟨by rfl, by intro W hW; clear hW; go_simp⟩) hHeld ?_
      simp only [put_laws]
      refine take_at 70 6 (.bool true) rfl rfl (by kernel_rfl) (by kernel_rfl) (by kernel_rfl) (fun _ _ _ h => h) (Or.inl ⟨by rfl, by intro W hW; clear hW; go_simp⟩) hHeld ?_
      simp only [put_laws]
      refine wpAnyH_done (by kernel_rfl) ?_ _
      refine NoPanic.normal ?_
      go_wp2
      go_ret
      exact ⟨rfl, hHeld.t.bel⟩
    · go_wp2_with fail
      refine wp_region_noPanic ?_
      refine region_start (S := Four w w1.heap.size a b c g X) 71 rfl (by kernel_rfl) (H4.out.below (below_drew _)) (fun hHeld => ?_)
      refine take_at 0 43 (.func (.func 22) #[] #[]) rfl rfl (by kernel_rfl) (by kernel_rfl) (by kernel_rfl) (fun _ _ _ h => h) (Or.inl ⟨by rfl, by intro W hW; clear hW; go_simp⟩) hHeld ?_
      simp only [put_laws]
      refine take_at 1 44 (.func (.func 22) #[] #[]) rfl rfl (by kernel_rfl) (by kernel_rfl) (by kernel_rfl) (fun _ _ _ h => h) (Or.inl ⟨by rfl, by intro W hW; clear hW; go_simp⟩) hHeld ?_
      simp only [put_laws]
      refine take_at 2 45 (.agg #[.int .i64 1, .int .i64 a]) rfl rfl (by kernel_rfl) (by kernel_rfl) (by kernel_rfl) (fun _ _ _ h => h) (yields_val (by rfl) 25 (.tmp 7) rfl (w1.heap.size) rfl 25 _ _ (fun W h => h.t.x) Tryd.underlying25 val_info) hHeld ?_
      simp only [put_laws]
      refine take_at 3 46 (.agg #[.int .i64 1, .int .i64 b]) rfl rfl (by kernel_rfl) (by kernel_rfl) (by kernel_rfl) (fun _ _ _ h => h) (yields_val (by rfl) 25 (.tmp 8) rfl (w1.heap.size + 1) rfl 25 _ _ (fun W h => h.t.y) Tryd.underlying25 val_info) hHeld ?_
      simp only [put_laws]
      refine take_at 5 48 (.agg #[.int .i64 1, .int .i64 b]) rfl rfl (by kernel_rfl) (by kernel_rfl) (by kernel_rfl) (fun _ _ _ h => h) (yields_val (by rfl) 25 (.tmp 8) rfl (w1.heap.size + 1) rfl 25 _ _ (fun W h => h.t.y) Tryd.underlying25 val_info) hHeld ?_
      simp only [put_laws]
      refine take_at 7 50 (.agg #[.int .i64 1, .int .i64 a]) rfl rfl (by kernel_rfl) (by kernel_rfl) (by kernel_rfl) (fun _ _ _ h => h) (yields_val (by rfl) 25 (.tmp 7) rfl (w1.heap.size) rfl 25 _ _ (fun W h => h.t.x) Tryd.underlying25 val_info) hHeld ?_
      simp only [put_laws]
      refine wpAnyH_ready (rs := [4]) (by kernel_rfl) (by simp) ?_
      refine AllReadyH.cons rfl (fun K hK => ?_) AllReadyH.nil
      go_simp
      refine (doAdd_val a b P _ HP.out).mono ?_
      rintro e wc47 ⟨rfl, hb⟩
      try go_simp
      have hHeld := hHeld.below hb
      have hsz47 := hb.size
      clear hb
      refine hK.out _ _ hHeld (fun hHeld => ?_)
      clear hK K
      refine wpAnyH_ready (rs := [6]) (by kernel_rfl) (by simp) ?_
      refine AllReadyH.cons rfl (fun K hK => ?_) AllReadyH.nil
      go_simp
      refine (doSub_val P b a _ HPs.out).mono ?_
      rintro e wc49 ⟨rfl, hb⟩
      try go_simp
      have hHeld := hHeld.below hb
      have hsz49 := hb.size
      clear hb
      refine hK.out _ _ hHeld (fun hHeld => ?_)
      clear hK K
      refine take_at 8 51 (.bool true) rfl rfl (by kernel_rfl) (by kernel_rfl) (by kernel_rfl) (fun _ _ _ h => h) (Or.inl ⟨by rfl, by intro W hW; clear hW; go_simp⟩) hHeld ?_
      simp only [put_laws]
      refine take_at 9 52 (.bool true) rfl rfl (by kernel_rfl) (by kernel_rfl) (by kernel_rfl) (fun _ _ _ h => h) (Or.inl ⟨by rfl, by intro W hW; clear hW; go_simp⟩) hHeld ?_
      simp only [put_laws]
      refine take_at 10 53 (.func (.func 22) #[] #[]) rfl rfl (by kernel_rfl) (by kernel_rfl) (by kernel_rfl) (fun _ _ _ h => h) (Or.inl ⟨by rfl, by intro W hW; clear hW; go_simp⟩) hHeld ?_
      simp only [put_laws]
      refine take_at 11 54 (.agg #[.int .i64 1, .int .i64 a]) rfl rfl (by kernel_rfl) (by kernel_rfl) (by kernel_rfl) (fun _ _ _ h => h) (yields_val (by rfl) 25 (.tmp 7) rfl (w1.heap.size) rfl 25 _ _ (fun W h => h.t.x) Tryd.underlying25 val_info) hHeld ?_
      simp only [put_laws]
      refine take_at 12 55 (.agg #[.int .i64 1, .int .i64 b]) rfl rfl (by kernel_rfl) (by kernel_rfl) (by kernel_rfl) (fun _ _ _ h => h) (yields_val (by rfl) 25 (.tmp 8) rfl (w1.heap.size + 1) rfl 25 _ _ (fun W h => h.t.y) Tryd.underlying25 val_info) hHeld ?_
      simp only [put_laws]
      refine take_at 14 57 (.func (.func 22) #[] #[]) rfl rfl (by kernel_rfl) (by kernel_rfl) (by kernel_rfl) (fun _ _ _ h => h) (Or.inl ⟨by rfl, by intro W hW; clear hW; go_simp⟩) hHeld ?_
      simp only [put_laws]
      refine take_at 15 58 (.agg #[.int .i64 1, .int .i64 b]) rfl rfl (by kernel_rfl) (by kernel_rfl) (by kernel_rfl) (fun _ _ _ h => h) (yields_val (by rfl) 25 (.tmp 8) rfl (w1.heap.size + 1) rfl 25 _ _ (fun W h => h.t.y) Tryd.underlying25 val_info) hHeld ?_
      simp only [put_laws]
      refine take_at 16 59 (.agg #[.int .i64 1, .int .i64 a]) rfl rfl (by kernel_rfl) (by kernel_rfl) (by kernel_rfl) (fun _ _ _ h => h) (yields_val (by rfl) 25 (.tmp 7) rfl (w1.heap.size) rfl 25 _ _ (fun W h => h.t.x) Tryd.underlying25 val_info) hHeld ?_
      simp only [put_laws]
      refine wpAnyH_ready (rs := [13]) (by kernel_rfl) (by simp) ?_
      refine AllReadyH.cons rfl (fun K hK => ?_) AllReadyH.nil
      go_simp
      refine (doAdd_val a b P _ HP.out).mono ?_
      rintro e wc56 ⟨rfl, hb⟩
      try go_simp
      have hHeld := hHeld.below hb
      have hsz56 := hb.size
      clear hb
      refine hK.out _ _ hHeld (fun hHeld => ?_)
      clear hK K
      refine wpAnyH_ready (rs := [17]) (by kernel_rfl) (by simp) ?_
      refine AllReadyH.cons rfl (fun K hK => ?_) AllReadyH.nil
      go_simp
      refine (doAdd_val b a P _ HP2.out).mono ?_
      rintro e wc60 ⟨rfl, hb⟩
      try go_simp
      have hHeld := hHeld.below hb
      have hsz60 := hb.size
      clear hb
      refine hK.out _ _ hHeld (fun hHeld => ?_)
      clear hK K
      refine take_at 18 61 (.bool true) rfl rfl (by kernel_rfl) (by kernel_rfl) (by kernel_rfl) (fun _ _ _ h => h) (Or.inl ⟨by rfl, by intro W hW; clear hW; go_simp⟩) hHeld ?_
      simp only [put_laws]
      refine take_at 19 62 (.bool true) rfl rfl (by kernel_rfl) (by kernel_rfl) (by kernel_rfl) (fun _ _ _ h => h) (Or.inl ⟨by rfl, by intro W hW; clear hW; go_simp⟩) hHeld ?_
      simp only [put_laws]
      refine take_at 20 63 (.bool true) rfl rfl (by kernel_rfl) (by kernel_rfl) (by kernel_rfl) (fun _ _ _ h => h) (Or.inl ⟨by rfl, by intro W hW; clear hW; go_simp⟩) hHeld ?_
      simp only [put_laws]
      refine take_at 21 64 (.func (.func 22) #[] #[]) rfl rfl (by kernel_rfl) (by kernel_rfl) (by kernel_rfl) (fun _ _ _ h => h) (Or.inl ⟨by rfl, by intro W hW; clear hW; go_simp⟩) hHeld ?_
      simp only [put_laws]
      refine take_at 22 65 (.agg #[.int .i64 1, .int .i64 a]) rfl rfl (by kernel_rfl) (by kernel_rfl) (by kernel_rfl) (fun _ _ _ h => h) (yields_val (by rfl) 25 (.tmp 7) rfl (w1.heap.size) rfl 25 _ _ (fun W h => h.t.x) Tryd.underlying25 val_info) hHeld ?_
      simp only [put_laws]
      refine take_at 23 66 (.agg #[.int .i64 1, .int .i64 b]) rfl rfl (by kernel_rfl) (by kernel_rfl) (by kernel_rfl) (fun _ _ _ h => h) (yields_val (by rfl) 25 (.tmp 8) rfl (w1.heap.size + 1) rfl 25 _ _ (fun W h => h.t.y) Tryd.underlying25 val_info) hHeld ?_
      simp only [put_laws]
      refine take_at 25 68 (.func (.func 22) #[] #[]) rfl rfl (by kernel_rfl) (by kernel_rfl) (by kernel_rfl) (fun _ _ _ h => h) (Or.inl ⟨by rfl, by intro W hW; clear hW; go_simp⟩) hHeld ?_
      simp only [put_laws]
      refine take_at 26 69 (.agg #[.int .i64 1, .int .i64 b]) rfl rfl (by kernel_rfl) (by kernel_rfl) (by kernel_rfl) (fun _ _ _ h => h) (yields_val (by rfl) 25 (.tmp 8) rfl (w1.heap.size + 1) rfl 25 _ _ (fun W h => h.t.y) Tryd.underlying25 val_info) hHeld ?_
      simp only [put_laws]
      refine take_at 27 70 (.agg #[.int .i64 1, .int .i64 a]) rfl rfl (by kernel_rfl) (by kernel_rfl) (by kernel_rfl) (fun _ _ _ h => h) (yields_val (by rfl) 25 (.tmp 7) rfl (w1.heap.size) rfl 25 _ _ (fun W h => h.t.x) Tryd.underlying25 val_info) hHeld ?_
      simp only [put_laws]
      refine wpAnyH_ready (rs := [24]) (by kernel_rfl) (by simp) ?_
      refine AllReadyH.cons rfl (fun K hK => ?_) AllReadyH.nil
      go_simp
      refine (doMul_val a b Q _ HQ.out).mono ?_
      rintro e wc67 ⟨rfl, hb⟩
      try go_simp
      have hHeld := hHeld.below hb
      have hsz67 := hb.size
      clear hb
      refine hK.out _ _ hHeld (fun hHeld => ?_)
      clear hK K
      refine wpAnyH_ready (rs := [28]) (by kernel_rfl) (by simp) ?_
      refine AllReadyH.cons rfl (fun K hK => ?_) AllReadyH.nil
      go_simp
      refine (doMul_val b a Q _ HQ2.out).mono ?_
      rintro e wc71 ⟨rfl, hb⟩
      try go_simp
      have hHeld := hHeld.below hb
      have hsz71 := hb.size
      clear hb
      refine hK.out _ _ hHeld (fun hHeld => ?_)
      clear hK K
      refine take_at 29 72 (.bool true) rfl rfl (by kernel_rfl) (by kernel_rfl) (by kernel_rfl) (fun _ _ _ h => h) (Or.inl ⟨by rfl, by intro W hW; clear hW; go_simp⟩) hHeld ?_
      simp only [put_laws]
      refine take_at 30 73 (.bool true) rfl rfl (by kernel_rfl) (by kernel_rfl) (by kernel_rfl) (fun _ _ _ h => h) (Or.inl ⟨by rfl, by intro W hW; clear hW; go_simp⟩) hHeld ?_
      simp only [put_laws]
      refine take_at 31 74 (.bool true) rfl rfl (by kernel_rfl) (by kernel_rfl) (by kernel_rfl) (fun _ _ _ h => h) (Or.inl ⟨by rfl, by intro W hW; clear hW; go_simp⟩) hHeld ?_
      simp only [put_laws]
      refine take_at 32 75 (.agg #[.int .i64 1, .int .i64 X]) rfl rfl (by kernel_rfl) (by kernel_rfl) (by kernel_rfl) (fun _ _ _ h => h) (yields_val (by rfl) 25 (.tmp 15) rfl (g) rfl 25 _ _ (fun W h => h.s) Tryd.underlying25 val_info) hHeld ?_
      simp only [put_laws]
      refine take_at 33 76 (.func (.func 22) #[] #[]) rfl rfl (by kernel_rfl) (by kernel_rfl) (by kernel_rfl) (fun _ _ _ h => h) (Or.inl ⟨by rfl, by intro W hW; clear hW; go_simp⟩) hHeld ?_
      simp only [put_laws]
      refine take_at 34 77 (.func (.func 22) #[] #[]) rfl rfl (by kernel_rfl) (by kernel_rfl) (by kernel_rfl) (fun _ _ _ h => h) (Or.inl ⟨by rfl, by intro W hW; clear hW; go_simp⟩) hHeld ?_
      simp only [put_laws]
      refine take_at 35 78 (.agg #[.int .i64 1, .int .i64 a]) rfl rfl (by kernel_rfl) (by kernel_rfl) (by kernel_rfl) (fun _ _ _ h => h) (yields_val (by rfl) 25 (.tmp 7) rfl (w1.heap.size) rfl 25 _ _ (fun W h => h.t.x) Tryd.underlying25 val_info) hHeld ?_
      simp only [put_laws]
      refine take_at 36 79 (.agg #[.int .i64 1, .int .i64 b]) rfl rfl (by kernel_rfl) (by kernel_rfl) (by kernel_rfl) (fun _ _ _ h => h) (yields_val (by rfl) 25 (.tmp 8) rfl (w1.heap.size + 1) rfl 25 _ _ (fun W h => h.t.y) Tryd.underlying25 val_info) hHeld ?_
      simp only [put_laws]
      refine take_at 38 81 (.func (.func 22) #[] #[]) rfl rfl (by kernel_rfl) (by kernel_rfl) (by kernel_rfl) (fun _ _ _ h => h) (Or.inl ⟨by rfl, by intro W hW; clear hW; go_simp⟩) hHeld ?_
      simp only [put_laws]
      refine take_at 39 82 (.agg #[.int .i64 1, .int .i64 a]) rfl rfl (by kernel_rfl) (by kernel_rfl) (by kernel_rfl) (fun _ _ _ h => h) (yields_val (by rfl) 25 (.tmp 7) rfl (w1.heap.size) rfl 25 _ _ (fun W h => h.t.x) Tryd.underlying25 val_info) hHeld ?_
      simp only [put_laws]
      refine take_at 40 83 (.agg #[.int .i64 1, .int .i64 c]) rfl rfl (by kernel_rfl) (by kernel_rfl) (by kernel_rfl) (fun _ _ _ h => h) (yields_val (by rfl) 25 (.tmp 9) rfl (w1.heap.size + 1 + 1) rfl 25 _ _ (fun W h => h.t.z) Tryd.underlying25 val_info) hHeld ?_
      simp only [put_laws]
      refine wpAnyH_ready (rs := [37]) (by kernel_rfl) (by simp) ?_
      refine AllReadyH.cons rfl (fun K hK => ?_) AllReadyH.nil
      go_simp
      refine (doMul_val a b Q _ HQ.out).mono ?_
      rintro e wc80 ⟨rfl, hb⟩
      try go_simp
      have hHeld := hHeld.below hb
      have hsz80 := hb.size
      clear hb
      refine hK.out _ _ hHeld (fun hHeld => ?_)
      clear hK K
      refine wpAnyH_ready (rs := [41]) (by kernel_rfl) (by simp) ?_
      refine AllReadyH.cons rfl (fun K hK => ?_) AllReadyH.nil
      go_simp
      refine (doMul_val a c R _ HR.out).mono ?_
      rintro e wc84 ⟨rfl, hb⟩
      try go_simp
      have hHeld := hHeld.below hb
      have hsz84 := hb.size
      clear hb
      refine hK.out _ _ hHeld (fun hHeld => ?_)
      clear hK K
      refine wpAnyH_ready (rs := [42]) (by kernel_rfl) (by simp) ?_
      refine AllReadyH.cons rfl (fun K hK => ?_) AllReadyH.nil
      go_simp
      refine (doAdd_val Q R X _ HS.out).mono ?_
      rintro e wc85 ⟨rfl, hb⟩
      try go_simp
      have hHeld := hHeld.below hb
      have hsz85 := hb.size
      clear hb
      refine hK.out _ _ hHeld (fun hHeld => ?_)
      clear hK K
      refine take_at 43 86 (.bool true) rfl rfl (by kernel_rfl) (by kernel_rfl) (by kernel_rfl) (fun _ _ _ h => h) (Or.inl ⟨by rfl, by intro W hW; clear hW; go_simp⟩) hHeld ?_
      simp only [put_laws]
      refine take_at 44 87 (.bool true) rfl rfl (by kernel_rfl) (by kernel_rfl) (by kernel_rfl) (fun _ _ _ h => h) (Or.inl ⟨by rfl, by intro W hW; clear hW; go_simp⟩) hHeld ?_
      simp only [put_laws]
      refine take_at 45 88 (.bool true) rfl rfl (by kernel_rfl) (by kernel_rfl) (by kernel_rfl) (fun _ _ _ h => h) (Or.inl ⟨by rfl, by intro W hW; clear hW; go_simp⟩) hHeld ?_
      simp only [put_laws]
      refine take_at 46 89 (.int .i64 0) rfl rfl (by kernel_rfl) (by kernel_rfl) (by kernel_rfl) (fun _ _ _ h => h) (Or.inl ⟨by rfl, by intro W hW; clear hW; go_simp⟩) hHeld ?_
      simp only [put_laws]
      refine take_at 47 90 (.bool true) rfl rfl (by kernel_rfl) (by kernel_rfl) (by kernel_rfl) (fun _ _ _ h => h) (Or.inl ⟨by rfl, by intro W hW; clear hW; go_simp⟩) hHeld ?_
      simp only [put_laws]
      refine take_at 48 91 (.bool true) rfl rfl (by kernel_rfl) (by kernel_rfl) (by kernel_rfl) (fun _ _ _ h => h) (Or.inl ⟨by rfl, by intro W hW; clear hW; go_simp⟩) hHeld ?_
      simp only [put_laws]
      refine take_at 49 92 (.bool true) rfl rfl (by kernel_rfl) (by kernel_rfl) (by kernel_rfl) (fun _ _ _ h => h) (Or.inl ⟨by rfl, by intro W hW; clear hW; go_simp⟩) hHeld ?_
      simp only [put_laws]
      refine take_at 50 93 (.int .i64 0) rfl rfl (by kernel_rfl) (by kernel_rfl) (by kernel_rfl) (fun _ _ _ h => h) (Or.inl ⟨by rfl, by intro W hW; clear hW; go_simp⟩) hHeld ?_
      simp only [put_laws]
      refine take_at 51 94 (.bool true) rfl rfl (by kernel_rfl) (by kernel_rfl) (by kernel_rfl) (fun _ _ _ h => h) (Or.inl ⟨by rfl, by intro W hW; clear hW; go_simp⟩) hHeld ?_
      simp only [put_laws]
      refine take_at 52 95 (.bool true) rfl rfl (by kernel_rfl) (by kernel_rfl) (by kernel_rfl) (fun _ _ _ h => h) (Or.inl ⟨by rfl, by intro W hW; clear hW; go_simp⟩) hHeld ?_
      simp only [put_laws]
      refine take_at 53 96 (.bool true) rfl rfl (by kernel_rfl) (by kernel_rfl) (by kernel_rfl) (fun _ _ _ h => h) (Or.inl ⟨by rfl, by intro W hW; clear hW; go_simp⟩) hHeld ?_
      simp only [put_laws]
      refine take_at 54 97 (.bool false) rfl rfl (by kernel_rfl) (by kernel_rfl) (by kernel_rfl) (fun _ _ _ h => h) (Or.inl ⟨by rfl, by intro W hW; clear hW; go_simp⟩) hHeld ?_
      simp only [put_laws]
      refine take_at 55 98 (.bool false) rfl rfl (by kernel_rfl) (by kernel_rfl) (by kernel_rfl) (fun _ _ _ h => h) (Or.inl ⟨by rfl, by intro W hW; clear hW; go_simp⟩) hHeld ?_
      simp only [put_laws]
      refine take_at 56 99 (.bool true) rfl rfl (by kernel_rfl) (by kernel_rfl) (by kernel_rfl) (fun _ _ _ h => h) (Or.inl ⟨by rfl, by intro W hW; clear hW; go_simp⟩) hHeld ?_
      simp only [put_laws]
      refine take_at 57 100 (.bool true) rfl rfl (by kernel_rfl) (by kernel_rfl) (by kernel_rfl) (fun _ _ _ h => h) (Or.inl ⟨by rfl, by intro W hW; clear hW; go_simp⟩) hHeld ?_
      simp only [put_laws]
      refine take_at 58 101 (.int .i64 a) rfl rfl (by kernel_rfl) (by kernel_rfl) (by kernel_rfl) (fun _ _ _ h => h) (Or.inl ⟨by rfl, by intro W hW; clear hW; go_simp⟩) hHeld ?_
      simp only [put_laws]
      refine take_at 59 102 (.int .i64 b) rfl rfl (by kernel_rfl) (by kernel_rfl) (by kernel_rfl) (fun _ _ _ h => h) (Or.inl ⟨by rfl, by intro W hW; clear hW; go_simp⟩) hHeld ?_
      simp only [put_laws]
      refine take_at 60 103 (.bool true) rfl rfl (by kernel_rfl) (by kernel_rfl) (by kernel_rfl) (fun _ _ _ h => h) (Or.inl ⟨by rfl, by intro W hW; have hd : (a = b) = False := (by have := Hd.out; simpa using this); clear hW; go_simp⟩) hHeld ?_
      simp only [put_laws]
      refine take_at 61 104 (.bool true) rfl rfl (by kernel_rfl) (by kernel_rfl) (by kernel_rfl) (fun _ _ _ h => h) (Or.inl ⟨by rfl, by intro W hW; clear hW; go_simp⟩) hHeld ?_
      simp only [put_laws]
      refine take_at 62 105 (.bool true) rfl rfl (by kernel_rfl) (by kernel_rfl) (by kernel_rfl) (fun _ _ _ h => h) (Or.inl ⟨by rfl, by intro W hW; clear hW; go_simp⟩) hHeld ?_
      simp only [put_laws]
      refine take_at 63 106 (.bool true) rfl rfl (by kernel_rfl) (by kernel_rfl) (by kernel_rfl) (fun _ _ _ h => h) (Or.inl ⟨by rfl, by intro W hW; clear hW; go_simp⟩) hHeld ?_
      simp only [put_laws]
      refine take_at 64 107 (.bool false) rfl rfl (by kernel_rfl) (by kernel_rfl) (by kernel_rfl) (fun _ _ _ h => h) (Or.inl ⟨by rfl, by intro W hW; clear hW; go_simp⟩) hHeld ?_
      simp only [put_laws]
      refine take_at 65 108 (.bool false) rfl rfl (by kernel_rfl) (by kernel_rfl) (by kernel_rfl) (fun _ _ _ h => h) (Or.inl ⟨by rfl, by intro W hW; clear hW; go_simp⟩) hHeld ?_
      simp only [put_laws]
      refine take_at 66 109 undef rfl rfl (by kernel_rfl) (by kernel_rfl) (by kernel_rfl) (fun _ _ _ h => h) (Or.inr ⟨by rfl, rfl⟩) hHeld ?_
      simp only [put_laws]
      refine take_at 67 110 (.bool false) rfl rfl (by kernel_rfl) (by kernel_rfl) (by kernel_rfl) (fun _ _ _ h => h) (Or.inl ⟨by rfl, by intro W hW; clear hW; go_simp⟩) hHeld ?_
      simp only [put_laws]
      refine take_at 68 111 (.bool true) rfl rfl (by kernel_rfl) (by kernel_rfl) (by kernel_rfl) (fun _ _ _ h => h) (Or.inl ⟨by rfl, by intro W hW; clear hW; go_simp⟩) hHeld ?_
      simp only [put_laws]
      refine take_at 69 112 (.bool true) rfl rfl (by kernel_rfl) (by kernel_rfl) (by kernel_rfl) (fun _ _ _ h => h) (Or.inl ⟨by rfl, by intro W hW; clear hW; go_simp⟩) hHeld ?_
      simp only [put_laws]
      refine take_at 70 6 (.bool true) rfl rfl (by kernel_rfl) (by kernel_rfl) (by kernel_rfl) (fun _ _ _ h => h) (Or.inl ⟨by rfl, by intro W hW; clear hW; go_simp⟩) hHeld ?_
      simp only [put_laws]
      refine wpAnyH_done (by kernel_rfl) ?_ _
      refine NoPanic.normal ?_
      go_wp2
      go_ret
      exact ⟨rfl, hHeld.t.bel⟩
theorem numbers_walk (a b c : Int) (w : World) (ha : Va.i64p a) (hL : Laid w) : Calls Tryd.prog 6 #[.int .i64 a, .int .i64 b, .int .i64 c] w fun e w' => e = .returned (.bool true) ∧ Below w.heap.size w w' := by
  refine numbers_at a b c _ _ _ _ _ _ _ (!(a == b)) w hL rfl rfl rfl (by rw [Int.add_comm]) (num_sub ha rfl) rfl (by rw [Int.mul_comm]) rfl (num_dist rfl rfl rfl rfl) rfl rfl (by simp) ?_
  rcases Int.lt_trichotomy a b with h | h | h
  · exact .inl ⟨by simpa using h, by simp; omega, by simp; omega⟩
  · exact .inr (.inl ⟨by simp; omega, by simp; omega, by simp; omega⟩)
  · exact .inr (.inr ⟨by simp; omega, by simpa using h, by simp; omega⟩)
end Go.Proofs.YtpfoehcgcofgpaaDoor
