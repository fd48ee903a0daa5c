/-
  The contracts of txn.Reads and txn.Writes.
-/
import Derived.Test.YtgnajfijecmecaaTxnMap
namespace Go.Proofs.Ytgnajfijecmecaa.Tx
open Go.RowKit Go.Shelf
attribute [local go_sem] Oper.semAt_some
theorem VarsAt.put {W : World} {A : Option Addr} {L : List Sp} {D : Nat} {o : Obj} (h : VarsAt W A L) (hD : W.heap[D]? = some o) (ho : o.isCells = false) (o' : Obj) : VarsAt (W.putObj D o') A L :=
  ⟨fun hl => by
    obtain ⟨ad, e, hc⟩ := h.cell hl
    exact ⟨ad, e, fun j u hu => cell_kept (hc j u hu) (grownBy_putObj' W D o') (fun r e => by cases e; exact ⟨o, hD, ho⟩)⟩, h.ok⟩
/-- what the loops of Reads and Writes keep: the map, its box, its steps. -/
structure MapI (w : World) (n : Nat) (f : Int → Option Sp) (W : World) : Prop where
  map : MapS W w.heap.size n f
  box : Blk W (w.heap.size + 1) #[.map (some w.heap.size)] 55
  ok : ∀ x s, f x = some s → s.ok
  sz : w.heap.size + 1 + 1 < W.heap.size
  bel : Below w.heap.size w W
theorem MapI.grown {w : World} {n : Nat} {f : Int → Option Sp} {X Y : World} {row : Option Nat} {B : Nat} (hB : w.heap.size + 1 + 1 + 1 ≤ B) (hs : MapI w n f X) (hg : X.grownBy Y row) (hr : ∀ r, row = some r → B ≤ r ∧ ∃ o : Obj, X.heap[r]? = some o ∧ o.isCells = false) : MapI w n f Y :=
  ⟨hs.map.kept hg (fun e => by have := (hr _ e.symm).1; omega), hs.box.kept hg hr, hs.ok, Nat.lt_of_lt_of_le hs.sz hg.size, hs.bel.grown hg hs.bel.size (fun k e => by have := (hr k e).1; omega)⟩
theorem MapI.alloc {w : World} {n : Nat} {f : Int → Option Sp} {W : World} (h : MapI w n f W) (o : Obj) : MapI w n f (W.alloc o) :=
  ⟨h.map.alloc o, h.box.alloc o, h.ok, by rw [size_new]; exact Nat.lt_succ_of_lt h.sz, h.bel.alloc h.bel.size o⟩
theorem MapI.same {w : World} {n m : Nat} {f g : Int → Option Sp} {W : World} (h : MapI w n f W) (e : ∀ x, f x = g x) (hm : n ≤ m) : MapI w m g W := by
  obtain rfl : f = g := funext e
  exact ⟨h.map.mono hm, h.box, h.ok, h.sz, h.bel⟩
/-- a step is put into the map. -/
theorem MapI.put {w : World} {n sz : Nat} {f : Int → Option Sp} {W W' : World} (h : MapI w n f W) {s : Sp} (hs : s.ok) (hm : MapV W' w.heap.size (n + 1) sz zeroS (fun t => if t = s.x then some (.agg (stepA s)) else (f t).map (fun s => .agg (stepA s)))) (hg : W.grownBy W' (some w.heap.size)) :
    MapI w (n + 1) (fun t => if t = s.x then some s else f t) W' :=
  ⟨⟨sz, hm.congr fun x => by by_cases e : x = s.x <;> simp [e]⟩, (hg.block _ h.box.lt (by simp)).trans h.box, fun x u hu => by
    by_cases e : x = s.x
    · rw [if_pos e] at hu; cases hu; exact hs
    · rw [if_neg e] at hu; exact h.ok x u hu, Nat.lt_of_lt_of_le h.sz hg.size, h.bel.grown hg h.bel.size (fun k e => by cases e; exact Nat.le_refl _)⟩
theorem MapI.kp {w : World} {n : Nat} {f : Int → Option Sp} {W W' : World} (h : MapI w n f W) (hg : W.grownBy W' (some w.heap.size)) : KpB w.heap.size (w.heap.size + 1 + 1) W W' :=
  ⟨(Below.refl _ W).grown hg h.bel.size (fun k e => by cases e; exact Nat.le_refl _), hg.block _ h.sz (by simp; omega)⟩
/-- the world in which their loops begin. -/
def mapW (w : World) (A : Option Addr) (n c : Nat) : World := (((w.alloc (.map #[] 0)).alloc (.cells #[.map (some w.heap.size)] 55)).alloc (.cells #[.slice A n c] 29))
theorem mapW_size (w : World) (A : Option Addr) (n c : Nat) : (mapW w A n c).heap.size = w.heap.size + 1 + 1 + 1 := by simp [mapW]
theorem mapW_start (w : World) (A : Option Addr) (n c : Nat) : MapI w 0 (fun _ => none) (mapW w A n c) :=
  ⟨((mapS_made w).alloc _).alloc _, (Blk.new' (by simp) _ _).alloc _, (fun _ _ h => (by cases h)), by rw [mapW_size]; exact Nat.lt_succ_self _, (((Below.refl _ w).alloc (Nat.le_refl _) _).alloc (by simp) _).alloc (by simp; omega) _⟩
theorem mapW_box (w : World) (A : Option Addr) (n c : Nat) : Blk (mapW w A n c) (w.heap.size + 1 + 1) #[.slice A n c] 29 := Blk.new' (by simp) _ _
theorem rd1_cons_wr {s : Sp} {P : List Sp} (h : s.wr = true) (x : Int) : rd1 P x = rd1 (s :: P) x := by simp [rd1, h]
theorem rd1_cons_rd {s : Sp} {P : List Sp} (h : s.wr = false) (x : Int) : (if x = s.x then some s else rd1 P x) = rd1 (s :: P) x := by
  by_cases e : x = s.x
  · subst e; simp [rd1, h]
  · have : ¬ s.x = x := fun h => e h.symm
    simp [rd1, e, this]
set_option maxRecDepth 100000 in
set_option maxHeartbeats 4000000 in
theorem reads_any (A : Option Addr) (c : Nat) (L : List Sp) (w : World) (h : VarsAt w A L) (hl : L.length ≤ 300) :
    Calls Try.prog 17 #[.slice A L.length c] w (SlPost (readsL L) w) := by
  obtain ⟨zs, rfl⟩ := ok_list h.ok
  have hA0 := h.low
  rw [List.length_map] at hl hA0 ⊢
  have HZ := Lib.hid h
  clear h
  have HW0 := mapW_start w A zs.length c
  have HS0 := mapW_size w A zs.length c
  have HX0 := mapW_box w A zs.length c
  have hmm := @run_makeMap Try.prog
  refine (callsIn_wide (n := 5)).1 ?_
  refine callsIn_of_wp_marks Try.func17 rfl trivial ?_ rfl
  simp only [Try.ntmps17, List.size_toArray, List.length_cons, List.length_nil, Nat.reduceAdd, Nat.reduceSub, Array.replicate_succ, Array.replicate_zero, List.push_toArray, List.append_toArray, List.nil_append, List.cons_append]
  gi_wp2_with (refine ⟨trivial, ?_⟩; gi_at_call 21; refine (callsIn_wide.2 (backward_any _ _ _ _)).mono ?_; rintro e w' ⟨rfl, rfl⟩)
  unfold mapW at HW0 HS0 HX0
  generalize (((w.alloc (.map #[] 0)).alloc (.cells #[.map (some w.heap.size)] 55)).alloc (.cells #[.slice A zs.length c] 29)) = W0 at HW0 HS0 HX0 ⊢
  clear hmm
  refine wpIn_rangeFunc_ownH rfl (by decide) (gf := 25) (lb := #[.pointer (some ⟨w.heap.size + 1 + 1, 0, none⟩)]) rfl trivial (enters_of Try.func25 (by kernel_rfl) rfl)
    (back_stops 4 (by decide) (w.heap.size + 1 + 1) w.heap.size c A zs (by omega) W0 (HX0.cell 0) (HZ.out.below HW0.bel (Nat.le_refl _)) hA0) kpB_t (kpB_b (by omega) (by omega)) (Below.refl _ _) (fun _ => rfl)
    (fun pre W => MapI w pre.length (rd1 (came pre)) W) (fun _ _ _ => False)
    (fun _ _ _ _ hs hg hr => hs.grown (by omega) hg hr) (fun _ _ _ _ _ hs _ _ => hs) HW0
    (fun y a' W => ∃ Bx, w.heap.size + 1 + 1 < Bx ∧ Blk W Bx (stepA y.2.1) 39 ∧ a' = { tmps := #[.slice A zs.length c, undef, .slice none 0 0, .pointer (some ⟨w.heap.size + 1, 0, none⟩), undef, .pointer (some ⟨Bx, 0, none⟩), .map (some w.heap.size), .slice A zs.length c, .func (.func 25) #[] #[.pointer (some ⟨w.heap.size + 1 + 1, 0, none⟩)], .int .i64 ((y.1 : Nat) : Int), .agg (stepA y.2.1), undef, undef, undef, undef, undef, undef, undef, undef, undef], defers := [] })
    (fun y a' => fun _ X Y row hs hg hr => by obtain ⟨Bx, h1, h2, h3⟩ := hs; exact ⟨Bx, h1, h2.kept hg hr, h3⟩) ?assign ?body ?done ?stop
  case assign =>
    rintro l pre y W K hi hK
    simp only [stepA] at hK ⊢
    gi_wp2
    exact hK _ _ ((KeepsOthers.alloc _ _).from _) ((kpB_refl _ _ _).alloc hi.bel.size hi.sz _) (hi.alloc _) ⟨W.heap.size, hi.sz, Blk.new _ _ _, rfl⟩
  case body =>
    rintro l pre y a' W hl' ⟨r, hr⟩ hi ⟨Bx, hBx, hX, rfl⟩ hlt
    obtain ⟨j, s, hok⟩ := y
    simp only [stepA] at hX ⊢
    have x0 := hX.cell 0
    have x1 := hX.cell 1
    have x2 := hX.cell 2
    have x3 := hX.cell 3
    simp only [List.getElem?_toArray, List.getElem?_cons_succ, List.getElem?_cons_zero] at x0 x1 x2 x3
    have b0 := hi.box.cell 0
    simp only [List.getElem?_toArray, List.getElem?_cons_zero] at b0
    obtain ⟨sz, hm⟩ := hi.map
    cases hw : s.wr with
    | true =>
      rw [hw] at x3
      gi_wp2
      exact ⟨KeepsFrom.refl _ _, kpB_refl _ _ _, by show MapI w (pre ++ [_]).length (rd1 (came _)) _; rw [came_snoc, List.length_append]; exact hi.same (rd1_cons_wr hw) (Nat.le_succ _)⟩
    | false =>
      rw [hw] at x3
      have hE : Value.agg (stepA s) = .agg #[.int .i64 s.x, .int .i64 s.k, .int .i64 s.n, .bool false] := by simp [stepA, hw]
      have HM := Lib.hid hm
      clear hm
      gi_wp2_with (gi_at_mapUpdate; refine wpListIn_putM rfl _ _ _ 55 39 rfl Try.underlying55 w.heap.size pre.length sz zeroS _ rfl HM.out (by omega) s.x (.agg (stepA s)) rfl hE.symm hok.1 ?_; intro w1 hm1 hg1)
      have hn := hi.put hok hm1 hg1
      exact ⟨KeepsFrom.of_grownBy hg1 (fun j e => by cases e; omega), hi.kp hg1, by show MapI w (pre ++ [_]).length (rd1 (came _)) _; rw [came_snoc, List.length_append]; exact hn.same (rd1_cons_rd hw) (Nat.le_refl _)⟩
  case done =>
    rintro D ys W hD hys hi hK
    have b0 := hi.box.cell 0
    simp only [List.getElem?_toArray, List.getElem?_cons_zero] at b0
    rw [came_all hys] at hi
    gi_wp2_with (refine ⟨trivial, ?_⟩; gi_at_call 22; refine (callsIn_wide.2 (rising_any _ _ _ _ hi.map hi.ok)).mono ?_; rintro e w1 ⟨T, d, rfl, hv, hb⟩)
    have hK' : w1.heap[D]? = some (.deferred (some [])) := (hb.block D (Array.getElem?_eq_some_iff.1 hK).1).trans hK
    refine ⟨by simp, .inl ⟨_, _, rfl, run_takeDeferred hK', ?_⟩⟩
    exact ⟨_, results_tmp rfl _ _ _, T, d, rfl, ⟨hv.at_.put hK' rfl _, hv.le, hv.max⟩, (hi.bel.trans (hb.mono hi.bel.size)).trans (belowK_b (n₀ := w.heap.size) (w := W0) (by omega) _ D _ _ hD hK' rfl rfl)⟩
  case stop =>
    rintro D c' pre W hD hpre hx hK
    exact hx.elim
theorem wr1_cons (s : Sp) (P : List Sp) (x : Int) : wr1 (s :: P) x = (wr1 P x).or (if x = s.x ∧ s.wr = true then some s else none) := by
  have e : s :: P = [s] ++ P := rfl
  rw [e, wr1_append]
  congr 1
  by_cases h : x = s.x ∧ s.wr = true
  · rw [if_pos h]; simp [wr1, h.1, h.2]
  · rw [if_neg h]
    simp [wr1]
    intro h1
    have : ¬ s.wr = true := fun h2 => h ⟨h1.symm, h2⟩
    simpa using this
theorem wr1_step_no {s : Sp} {P : List Sp} (h : s.wr = false ∨ (wr1 P s.x).isSome = true) (x : Int) : wr1 P x = wr1 (s :: P) x := by
  rw [wr1_cons]
  by_cases e : x = s.x ∧ s.wr = true
  · rw [if_pos e]
    rcases h with h | h
    · rw [h] at e; cases e.2
    · rw [← e.1] at h
      cases hP : wr1 P x with
      | none => rw [hP] at h; cases h
      | some u => rfl
  · rw [if_neg e]; simp
theorem wr1_step_yes {s : Sp} {P : List Sp} (hw : s.wr = true) (h : wr1 P s.x = none) (x : Int) : (if x = s.x then some s else wr1 P x) = wr1 (s :: P) x := by
  rw [wr1_cons]
  by_cases e : x = s.x
  · subst e; rw [if_pos rfl, if_pos ⟨rfl, hw⟩, h]; rfl
  · rw [if_neg e, if_neg (fun h => e h.1)]; simp
set_option maxRecDepth 100000 in
set_option maxHeartbeats 4000000 in
theorem writes_any (A : Option Addr) (c : Nat) (L : List Sp) (w : World) (h : VarsAt w A L) (hl : L.length ≤ 300) :
    Calls Try.prog 16 #[.slice A L.length c] w (SlPost (writesL L) w) := by
  obtain ⟨zs, rfl⟩ := ok_list h.ok
  have hA0 := h.low
  rw [List.length_map] at hl hA0 ⊢
  have HZ := Lib.hid h
  clear h
  have HW0 := mapW_start w A zs.length c
  have HS0 := mapW_size w A zs.length c
  have HX0 := mapW_box w A zs.length c
  have hmm := @run_makeMap Try.prog
  refine (callsIn_wide (n := 5)).1 ?_
  refine callsIn_of_wp_marks Try.func16 rfl trivial ?_ rfl
  simp only [Try.ntmps16, List.size_toArray, List.length_cons, List.length_nil, Nat.reduceAdd, Nat.reduceSub, Array.replicate_succ, Array.replicate_zero, List.push_toArray, List.append_toArray, List.nil_append, List.cons_append]
  gi_wp2_with (refine ⟨trivial, ?_⟩; gi_at_call 21; refine (callsIn_wide.2 (backward_any _ _ _ _)).mono ?_; rintro e w' ⟨rfl, rfl⟩)
  unfold mapW at HW0 HS0 HX0
  generalize (((w.alloc (.map #[] 0)).alloc (.cells #[.map (some w.heap.size)] 55)).alloc (.cells #[.slice A zs.length c] 29)) = W0 at HW0 HS0 HX0 ⊢
  clear hmm
  refine wpIn_rangeFunc_ownH rfl (by decide) (gf := 25) (lb := #[.pointer (some ⟨w.heap.size + 1 + 1, 0, none⟩)]) rfl trivial (enters_of Try.func25 (by kernel_rfl) rfl)
    (back_stops 4 (by decide) (w.heap.size + 1 + 1) w.heap.size c A zs (by omega) W0 (HX0.cell 0) (HZ.out.below HW0.bel (Nat.le_refl _)) hA0) kpB_t (kpB_b (by omega) (by omega)) (Below.refl _ _) (fun _ => rfl)
    (fun pre W => MapI w pre.length (wr1 (came pre)) W) (fun _ _ _ => False)
    (fun _ _ _ _ hs hg hr => hs.grown (by omega) hg hr) (fun _ _ _ _ _ hs _ _ => hs) HW0
    (fun y a' W => ∃ Bx, w.heap.size + 1 + 1 < Bx ∧ Blk W Bx (stepA y.2.1) 39 ∧ a' = { tmps := #[.slice A zs.length c, undef, .slice none 0 0, .pointer (some ⟨w.heap.size + 1, 0, none⟩), undef, .pointer (some ⟨Bx, 0, none⟩), undef, undef, .map (some w.heap.size), .slice A zs.length c, .func (.func 25) #[] #[.pointer (some ⟨w.heap.size + 1 + 1, 0, none⟩)], .int .i64 ((y.1 : Nat) : Int), .agg (stepA y.2.1), undef, undef, undef, undef, undef, undef, undef, undef, undef, undef, undef, undef, undef, undef, undef, undef, undef, undef, undef], defers := [] })
    (fun y a' => fun _ X Y row hs hg hr => by obtain ⟨Bx, h1, h2, h3⟩ := hs; exact ⟨Bx, h1, h2.kept hg hr, h3⟩) ?assign ?body ?done ?stop
  case assign =>
    rintro l pre y W K hi hK
    simp only [stepA] at hK ⊢
    gi_wp2
    exact hK _ _ ((KeepsOthers.alloc _ _).from _) ((kpB_refl _ _ _).alloc hi.bel.size hi.sz _) (hi.alloc _) ⟨W.heap.size, hi.sz, Blk.new _ _ _, rfl⟩
  case body =>
    rintro l pre y a' W hl' ⟨r, hr⟩ hi ⟨Bx, hBx, hX, rfl⟩ hlt
    obtain ⟨j, s, hok⟩ := y
    simp only [stepA] at hX ⊢
    have x0 := hX.cell 0
    have x1 := hX.cell 1
    have x2 := hX.cell 2
    have x3 := hX.cell 3
    simp only [List.getElem?_toArray, List.getElem?_cons_succ, List.getElem?_cons_zero] at x0 x1 x2 x3
    have b0 := hi.box.cell 0
    simp only [List.getElem?_toArray, List.getElem?_cons_zero] at b0
    have hlk := hi.map.look hok.1
    generalize hfo : wr1 (came pre) s.x = fo at hlk
    generalize hfv : fo.getD zero = fv at hlk
    unfold stepA at hlk
    have hi2 := hi.alloc (.cells #[.int .i64 fv.x, .int .i64 fv.k, .int .i64 fv.n, .bool fv.wr] 39)
    have hX2 := hX.alloc (.cells #[.int .i64 fv.x, .int .i64 fv.k, .int .i64 fv.n, .bool fv.wr] 39)
    have HK2 := Lib.hid ((kpB_refl w.heap.size (w.heap.size + 1 + 1) W).alloc hi.bel.size hi.sz (.cells #[.int .i64 fv.x, .int .i64 fv.k, .int .i64 fv.n, .bool fv.wr] 39))
    have y0 := hX2.cell 0
    have y1 := hX2.cell 1
    have y2 := hX2.cell 2
    have y3 := hX2.cell 3
    simp only [List.getElem?_toArray, List.getElem?_cons_succ, List.getElem?_cons_zero] at y0 y1 y2 y3
    have b1 := hi2.box.cell 0
    simp only [List.getElem?_toArray, List.getElem?_cons_zero] at b1
    have HI := Lib.hid hi
    have HI2 := Lib.hid hi2
    clear hi hi2 hX hX2 hfv
    cases hw : s.wr with
    | false =>
      rw [hw] at x3 y3
      gi_wp2
      exact ⟨(KeepsOthers.alloc _ _).from _, HK2.out, by show MapI w (pre ++ [_]).length (wr1 (came _)) _; rw [came_snoc, List.length_append]; exact HI2.out.same (wr1_step_no (.inl hw)) (Nat.le_succ _)⟩
    | true =>
      rw [hw] at x3 y3
      cases fo with
      | some u =>
        simp only [Option.isSome_some] at hlk
        gi_wp2
        exact ⟨(KeepsOthers.alloc _ _).from _, HK2.out, by show MapI w (pre ++ [_]).length (wr1 (came _)) _; rw [came_snoc, List.length_append]; exact HI2.out.same (wr1_step_no (.inr (by rw [hfo]; rfl))) (Nat.le_succ _)⟩
      | none =>
        simp only [Option.isSome_none] at hlk
        have hE : Value.agg (stepA s) = .agg #[.int .i64 s.x, .int .i64 s.k, .int .i64 s.n, .bool true] := by simp [stepA, hw]
        obtain ⟨sz, hm⟩ := HI2.out.map
        have HM := Lib.hid hm
        clear hm
        gi_wp2_with (gi_at_mapUpdate; refine wpListIn_putM rfl _ _ _ 55 39 rfl Try.underlying55 w.heap.size pre.length sz zeroS _ rfl HM.out (by omega) s.x (.agg (stepA s)) rfl hE.symm hok.1 ?_; intro w1 hm1 hg1)
        have hn := HI2.out.put hok hm1 hg1
        exact ⟨((KeepsOthers.alloc _ _).from _).trans (KeepsFrom.of_grownBy hg1 (fun j e => by cases e; omega)), kpB_t HK2.out (HI2.out.kp hg1), by show MapI w (pre ++ [_]).length (wr1 (came _)) _; rw [came_snoc, List.length_append]; exact hn.same (wr1_step_yes hw hfo) (Nat.le_refl _)⟩
  case done =>
    rintro D ys W hD hys hi hK
    have b0 := hi.box.cell 0
    simp only [List.getElem?_toArray, List.getElem?_cons_zero] at b0
    rw [came_all hys] at hi
    gi_wp2_with (refine ⟨trivial, ?_⟩; gi_at_call 22; refine (callsIn_wide.2 (rising_any _ _ _ _ hi.map hi.ok)).mono ?_; rintro e w1 ⟨T, d, rfl, hv, hb⟩)
    have hK' : w1.heap[D]? = some (.deferred (some [])) := (hb.block D (Array.getElem?_eq_some_iff.1 hK).1).trans hK
    refine ⟨by simp, .inl ⟨_, _, rfl, run_takeDeferred hK', ?_⟩⟩
    exact ⟨_, results_tmp rfl _ _ _, T, d, rfl, ⟨hv.at_.put hK' rfl _, hv.le, hv.max⟩, (hi.bel.trans (hb.mono hi.bel.size)).trans (belowK_b (n₀ := w.heap.size) (w := W0) (by omega) _ D _ _ hD hK' rfl rfl)⟩
  case stop =>
    rintro D c' pre W hD hpre hx hK
    exact hx.elim
end Go.Proofs.Ytgnajfijecmecaa.Tx
