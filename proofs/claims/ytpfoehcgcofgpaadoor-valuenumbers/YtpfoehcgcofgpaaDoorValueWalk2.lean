/-
  Contracts of value.Add, Sub, Mul and Less, and of the document's own.
-/
import Derived.Test.YtpfoehcgcofgpaaDoorValueWalk1
namespace Go.Proofs.YtpfoehcgcofgpaaDoor
open Go.RowKit
/-- the block b holds the value (k, n): it can be loaded, and stored into. -/
structure ValAt (w : World) (b : Nat) (t : TypeId) (k n : Int) : Prop where
  is : w.heap[b]? = some (.cells #[.int .i64 k, .int .i64 n] t (0, 0))
theorem valAt_new (w : World) (k n : Int) (t : TypeId) : ValAt (w.alloc (.cells #[.int .i64 k, .int .i64 n] t)) w.heap.size t k n := ⟨by show (w.heap.push _)[w.heap.size]? = _; rw [Array.getElem?_push, if_pos rfl]⟩
theorem ValAt.lt {w : World} {b : Nat} {t : TypeId} {k n : Int} (h : ValAt w b t k n) : b < w.heap.size := by
  rcases Nat.lt_or_ge b w.heap.size with h' | h'
  · exact h'
  · have := h.is; rw [Array.getElem?_eq_none h'] at this; cases this
theorem ValAt.below {w w' : World} {b : Nat} {t : TypeId} {k n : Int} (h : ValAt w b t k n) (hb : Below w.heap.size w w') : ValAt w' b t k n := ⟨by rw [hb.block b h.lt]; exact h.is⟩
theorem ValAt.alloc {w : World} {b : Nat} {t : TypeId} {k n : Int} (h : ValAt w b t k n) (o : Obj) : ValAt (w.alloc o) b t k n := h.below (below_new w o)
theorem ValAt.fst {w : World} {b : Nat} {t : TypeId} {k n : Int} (h : ValAt w b t k n) : w.cell? ⟨b, 0, none⟩ = some (.int .i64 k) := by
  simp [World.cell?, h.is]
theorem ValAt.snd {w : World} {b : Nat} {t : TypeId} {k n : Int} (h : ValAt w b t k n) : w.cell? ⟨b, 1, none⟩ = some (.int .i64 n) := by
  simp [World.cell?, h.is]
theorem ValAt.free {w : World} {b : Nat} {t : TypeId} {k n : Int} (h : ValAt w b t k n) (i : Nat) : w.frozen? ⟨b, i, none⟩ = false := by
  simp [World.frozen?, h.is]
theorem val_info : (Tryd.prog.info? 25).map (·.size) = some 2 := by kernel_rfl
theorem rval_info : (Tryd.prog.info? 23).map (·.size) = some 2 := by kernel_rfl
theorem results_val {fn : Func} {p : Tmp} {ty : TypeId} (h : fn.results = #[.cell p ty]) (tmps : Array Value) (w : World) (b : Nat) (t : TypeId) (k n : Int) (fs : _) (hp : tmps.getD p undef = .pointer (some ⟨b, 0, none⟩)) (hv : ValAt w b t k n)
    (hu : Tryd.prog.underlying ty = some (.struct fs)) (hi : (Tryd.prog.info? ty).map (·.size) = some 2) : (results fn tmps).run Tryd.prog w = .ok (.agg #[.int .i64 k, .int .i64 n]) w :=
  results_cell_row h tmps w b t _ (0, 0) _ hp hv.is hu rfl hi
theorem results_valE {fn : Func} {p u : Tmp} {ty : TypeId} (h : fn.results = #[.cell p ty, .tmp u]) (tmps : Array Value) (w : World) (b : Nat) (t : TypeId) (k n : Int) (fs : _) (x : Value) (hp : tmps.getD p undef = .pointer (some ⟨b, 0, none⟩)) (hx : tmps.getD u undef = x) (hv : ValAt w b t k n)
    (hu : Tryd.prog.underlying ty = some (.struct fs)) (hi : (Tryd.prog.info? ty).map (·.size) = some 2) : (results fn tmps).run Tryd.prog w = .ok (.tuple #[.agg #[.int .i64 k, .int .i64 n], x]) w := by
  rw [results_cell_tmp h, hp, hx]
  simp [asAddr, Result.andThen, run_loadVar_row w b t ty _ (0, 0) _ hv.is hu rfl hi]
theorem ValAt.put {w : World} {b : Nat} {t : TypeId} {k n : Int} (h : ValAt w b t k n) (k' n' : Int) : ValAt ((w.setCell ⟨b, 0, none⟩ (.int .i64 k')).setCell ⟨b, 1, none⟩ (.int .i64 n')) b t k' n' := by
  constructor
  have := h.is
  simp [World.setCell, Array.getElem?_modify, this]
theorem below_put {w : World} {B b : Nat} {a : World} (h : Below B a w) (hb : B ≤ b) (x y : Value) : Below B a ((w.setCell ⟨b, 0, none⟩ x).setCell ⟨b, 1, none⟩ y) := (h.setCell hb x).setCell hb y
/-- two values laid into their boxes, and an answer's. -/
def w3 (w : World) (t : TypeId) (ka a kb b : Int) : World := ((w.alloc (.cells #[.int .i64 ka, .int .i64 a] t)).alloc (.cells #[.int .i64 kb, .int .i64 b] t)).alloc (.cells #[.int .i64 0, .int .i64 0] t)
theorem w3_below (w : World) (t : TypeId) (ka a kb b : Int) : Below w.heap.size w (w3 w t ka a kb b) := (((Below.refl _ _).alloc (Nat.le_refl _) _).alloc (by simp) _).alloc (by simp; omega) _
theorem w3_size (w : World) (t : TypeId) (ka a kb b : Int) : (w3 w t ka a kb b).heap.size = w.heap.size + 3 := by unfold w3; simp
theorem w3_at (w : World) (t : TypeId) (ka a kb b : Int) : ValAt (w3 w t ka a kb b) (w.heap.size + 1 + 1) t 0 0 := by
  have := valAt_new ((w.alloc (.cells #[.int .i64 ka, .int .i64 a] t)).alloc (.cells #[.int .i64 kb, .int .i64 b] t)) 0 0 t
  simpa [w3] using this
theorem w3_on {w w1 : World} {t : TypeId} {ka a kb b : Int} (h : Below (w3 w t ka a kb b).heap.size (w3 w t ka a kb b) w1) : ValAt w1 (w.heap.size + 1 + 1) t 0 0 ∧ Below w.heap.size w w1 :=
  ⟨(w3_at w t ka a kb b).below h, (w3_below w t ka a kb b).trans (h.mono (by rw [w3_size]; omega))⟩
/-- what two numbers come to. -/
def did (f : Int → Int → Int) (ka a kb b : Int) : Int × Int × Int := if ka = 1 ∧ kb = 1 then (1, wrap64 (f a b), 0) else (0, 0, 7)
theorem did_ints (f : Int → Int → Int) (a b : Int) : did f 1 a 1 b = (1, wrap64 (f a b), 0) := by unfold did; rw [if_pos ⟨rfl, rfl⟩]
theorem did_else (f : Int → Int → Int) {ka a kb b : Int} (h : ka ≠ 1 ∨ kb ≠ 1) : did f ka a kb b = (0, 0, 7) := by unfold did; rw [if_neg]; rintro ⟨h1, h2⟩; rcases h with h | h <;> contradiction
def valE (x : Int × Int × Int) : Value := .tuple #[.agg #[.int .i64 x.1, .int .i64 x.2.1], .int .i64 x.2.2]
set_option maxHeartbeats 1000000 in
theorem com_else (ka a kb b : Int) (f : Value) (w : World) (h : ka ≠ 1 ∨ kb ≠ 1) :
    Calls Tryd.prog 23 #[.agg #[.int .i64 ka, .int .i64 a], .agg #[.int .i64 kb, .int .i64 b], f] w fun e w' => e = .returned (.tuple #[.agg #[.int .i64 0, .int .i64 0], .int .i64 7]) ∧ Below w.heap.size w w' := by
  have HB := Lib.hid (((w3_below w 25 ka a kb b)).alloc (by rw [w3_size]; omega) (.cells #[.int .i64 0, .int .i64 0] 25))
  have HV := Lib.hid ((w3_at w 25 ka a kb b).alloc (.cells #[.int .i64 0, .int .i64 0] 25))
  by_cases ha : ka = 1
  · have hb : (kb == 1) = false := by
      rcases h with h | h
      · exact absurd ha h
      · simpa using h
    subst ha
    clear h
    go_enter Tryd.func23, Tryd.ntmps23
    go_wp2
    exact bodyPost_ret (results_valE rfl _ _ (w.heap.size + 1 + 1) 25 _ _ _ _ rfl rfl HV.out Tryd.underlying25 val_info) rfl ⟨rfl, HB.out⟩
  · have hb : (ka == 1) = false := by simpa using ha
    clear h ha
    go_enter Tryd.func23, Tryd.ntmps23
    go_wp2
    exact bodyPost_ret (results_valE rfl _ _ (w.heap.size + 1 + 1) 25 _ _ _ _ rfl rfl HV.out Tryd.underlying25 val_info) rfl ⟨rfl, HB.out⟩
set_option maxHeartbeats 1000000 in
theorem comB_else (ka a kb b : Int) (f : Value) (w : World) (h : ka ≠ 1 ∨ kb ≠ 1) :
    Calls Tryd.prog 27 #[.agg #[.int .i64 ka, .int .i64 a], .agg #[.int .i64 kb, .int .i64 b], f] w fun e w' => e = .returned (.tuple #[.bool false, .int .i64 7]) ∧ Below w.heap.size w w' := by
  have HB := Lib.hid (((Below.refl w.heap.size w).alloc (Nat.le_refl _) (.cells #[.int .i64 ka, .int .i64 a] 25)).alloc (by simp) (.cells #[.int .i64 kb, .int .i64 b] 25))
  by_cases ha : ka = 1
  · have hb : (kb == 1) = false := by
      rcases h with h | h
      · exact absurd ha h
      · simpa using h
    subst ha
    clear h
    go_enter Tryd.func27, Tryd.ntmps27
    go_wp2
    go_ret2
    exact ⟨rfl, HB.out⟩
  · have hb : (ka == 1) = false := by simpa using ha
    clear h ha
    go_enter Tryd.func27, Tryd.ntmps27
    go_wp2
    go_ret2
    exact ⟨rfl, HB.out⟩
set_option maxHeartbeats 1000000 in
theorem lessF_any (a b : Int) (w : World) :
    Calls Tryd.prog 28 #[.int .i64 a, .int .i64 b] w fun e w' => e = .returned (.bool (decide (a < b))) ∧ w = w' := by
  go_enter Tryd.func28, Tryd.ntmps28
  go_wp2
  go_ret
  exact ⟨rfl, rfl⟩
set_option maxHeartbeats 1000000 in
theorem comB_ints (a b : Int) (w : World) :
    Calls Tryd.prog 27 #[.agg #[.int .i64 1, .int .i64 a], .agg #[.int .i64 1, .int .i64 b], .func (.func 28) #[] #[]] w fun e w' => e = .returned (.tuple #[.bool (decide (a < b)), .int .i64 0]) ∧ Below w.heap.size w w' := by
  have HB := Lib.hid (((Below.refl w.heap.size w).alloc (Nat.le_refl _) (.cells #[.int .i64 1, .int .i64 a] 25)).alloc (by simp) (.cells #[.int .i64 1, .int .i64 b] 25))
  go_enter Tryd.func27, Tryd.ntmps27
  go_wp2_with fail
  refine (lessF_any _ _ _).mono ?_
  rintro e w1 ⟨rfl, rfl⟩
  go_wp2
  go_ret2
  exact ⟨rfl, HB.out⟩
/-- whether one number is below another. -/
def lesd (ka a kb b : Int) : Bool × Int := if ka = 1 ∧ kb = 1 then (decide (a < b), 0) else (false, 7)
theorem lesd_ints (a b : Int) : lesd 1 a 1 b = (decide (a < b), 0) := by unfold lesd; rw [if_pos ⟨rfl, rfl⟩]
theorem lesd_else {ka a kb b : Int} (h : ka ≠ 1 ∨ kb ≠ 1) : lesd ka a kb b = (false, 7) := by unfold lesd; rw [if_neg]; rintro ⟨h1, h2⟩; rcases h with h | h <;> contradiction
set_option maxHeartbeats 1000000 in
theorem less_any (ka a kb b : Int) (w : World) :
    Calls Tryd.prog 14 #[.agg #[.int .i64 ka, .int .i64 a], .agg #[.int .i64 kb, .int .i64 b]] w fun e w' => e = .returned (.tuple #[.bool (lesd ka a kb b).1, .int .i64 (lesd ka a kb b).2]) ∧ Below w.heap.size w w' := by
  have HB := Lib.hid (((Below.refl w.heap.size w).alloc (Nat.le_refl _) (.cells #[.int .i64 ka, .int .i64 a] 25)).alloc (by simp) (.cells #[.int .i64 kb, .int .i64 b] 25))
  by_cases h : ka = 1 ∧ kb = 1
  · obtain ⟨rfl, rfl⟩ := h
    rw [lesd_ints]
    go_enter Tryd.func14, Tryd.ntmps14
    go_wp2_with fail
    refine (comB_ints _ _ _).mono ?_
    rintro e w1 ⟨rfl, hb1⟩
    go_wp2
    go_ret2
    exact ⟨rfl, HB.out.trans (hb1.mono (by simp; omega))⟩
  · have h' : ka ≠ 1 ∨ kb ≠ 1 := by
      by_cases h1 : ka = 1
      · exact .inr fun h2 => h ⟨h1, h2⟩
      · exact .inl h1
    rw [lesd_else h']
    have H := Lib.hid h'
    clear h h'
    go_enter Tryd.func14, Tryd.ntmps14
    go_wp2_with fail
    refine (comB_else _ _ _ _ _ _ H.out).mono ?_
    rintro e w1 ⟨rfl, hb1⟩
    go_wp2
    go_ret2
    exact ⟨rfl, HB.out.trans (hb1.mono (by simp; omega))⟩
set_option maxHeartbeats 1000000 in
theorem rless_any (ka a kb b : Int) (w : World) :
    Calls Tryd.prog 15 #[.agg #[.int .i64 ka, .int .i64 a], .agg #[.int .i64 kb, .int .i64 b]] w fun e w' => e = .returned (.tuple #[.bool (lesd ka a kb b).1, .int .i64 (lesd ka a kb b).2]) ∧ Below w.heap.size w w' := by
  have HB := Lib.hid (((Below.refl w.heap.size w).alloc (Nat.le_refl _) (.cells #[.int .i64 ka, .int .i64 a] 23)).alloc (by simp) (.cells #[.int .i64 kb, .int .i64 b] 23))
  by_cases h : ka = 1 ∧ kb = 1
  · obtain ⟨rfl, rfl⟩ := h
    rw [lesd_ints]
    go_enter Tryd.func15, Tryd.ntmps15
    go_wp2
    go_ret2
    exact ⟨rfl, HB.out⟩
  · have h' : ka ≠ 1 ∨ kb ≠ 1 := by
      by_cases h1 : ka = 1
      · exact .inr fun h2 => h ⟨h1, h2⟩
      · exact .inl h1
    rw [lesd_else h']
    by_cases ha : ka = 1
    · have hb : (kb == 1) = false := by
        rcases h' with h | h
        · exact absurd ha h
        · simpa using h
      subst ha
      clear h h'
      go_enter Tryd.func15, Tryd.ntmps15
      go_wp2
      go_ret2
      exact ⟨rfl, HB.out⟩
    · have hb : (ka == 1) = false := by simpa using ha
      clear h h' ha
      go_enter Tryd.func15, Tryd.ntmps15
      go_wp2
      go_ret2
      exact ⟨rfl, HB.out⟩
set_option maxHeartbeats 1000000 in
theorem rdo_else (c ka a kb b : Int) (w : World) (h : ka ≠ 1 ∨ kb ≠ 1) :
    Calls Tryd.prog 13 #[.int .u8 c, .agg #[.int .i64 ka, .int .i64 a], .agg #[.int .i64 kb, .int .i64 b]] w fun e w' => e = .returned (.tuple #[.agg #[.int .i64 0, .int .i64 0], .int .i64 7]) ∧ Below w.heap.size w w' := by
  have HB := Lib.hid (w3_below w 23 ka a kb b)
  have HV := Lib.hid (w3_at w 23 ka a kb b)
  by_cases ha : ka = 1
  · have hb : (kb == 1) = false := by
      rcases h with h | h
      · exact absurd ha h
      · simpa using h
    subst ha
    clear h
    go_enter Tryd.func13, Tryd.ntmps13
    go_wp2
    exact bodyPost_ret (results_valE rfl _ _ (w.heap.size + 1 + 1) 23 _ _ _ _ rfl rfl HV.out Tryd.underlying23 rval_info) rfl ⟨rfl, HB.out⟩
  · have hb : (ka == 1) = false := by simpa using ha
    clear h ha
    go_enter Tryd.func13, Tryd.ntmps13
    go_wp2
    exact bodyPost_ret (results_valE rfl _ _ (w.heap.size + 1 + 1) 23 _ _ _ _ rfl rfl HV.out Tryd.underlying23 rval_info) rfl ⟨rfl, HB.out⟩
set_option maxHeartbeats 1000000 in
theorem addF_any (a b : Int) (w : World) :
    Calls Tryd.prog 24 #[.int .i64 a, .int .i64 b] w fun e w' => e = .returned (.agg #[.int .i64 1, .int .i64 (wrap64 (a + b))]) ∧ Below w.heap.size w w' := by
  go_enter Tryd.func24, Tryd.ntmps24
  go_wp2
  exact bodyPost_ret (results_val rfl _ _ w.heap.size 25 _ _ _ rfl (valAt_new _ _ _ _) Tryd.underlying25 val_info) rfl ⟨rfl, below_new _ _⟩
set_option maxHeartbeats 1000000 in
theorem comAdd_ints (a b : Int) (w : World) :
    Calls Tryd.prog 23 #[.agg #[.int .i64 1, .int .i64 a], .agg #[.int .i64 1, .int .i64 b], .func (.func 24) #[] #[]] w fun e w' => e = .returned (.tuple #[.agg #[.int .i64 1, .int .i64 (wrap64 (a + b))], .int .i64 0]) ∧ Below w.heap.size w w' := by
  go_enter Tryd.func23, Tryd.ntmps23
  go_wp2_with fail
  refine (addF_any _ _ _).mono ?_
  rintro e w1 ⟨rfl, hb1⟩
  obtain ⟨v1, hB⟩ := w3_on hb1
  have c0 := v1.fst
  have c1 := v1.snd
  have f0 := v1.free 0
  have f1 := v1.free 1
  have V1 := Lib.hid v1
  clear v1 hb1
  go_wp2
  exact bodyPost_ret (results_valE rfl _ _ (w.heap.size + 1 + 1) 25 _ _ _ _ rfl rfl (V1.out.put _ _) Tryd.underlying25 val_info) rfl ⟨rfl, below_put hB (by omega) _ _⟩
set_option maxHeartbeats 1000000 in
theorem add_any (ka a kb b : Int) (w : World) :
    Calls Tryd.prog 10 #[.agg #[.int .i64 ka, .int .i64 a], .agg #[.int .i64 kb, .int .i64 b]] w fun e w' => e = .returned (valE (did (· + ·) ka a kb b)) ∧ Below w.heap.size w w' := by
  unfold valE
  by_cases h : ka = 1 ∧ kb = 1
  · obtain ⟨rfl, rfl⟩ := h
    rw [did_ints]
    go_enter Tryd.func10, Tryd.ntmps10
    go_wp2_with fail
    refine (comAdd_ints _ _ _).mono ?_
    rintro e w1 ⟨rfl, hb1⟩
    obtain ⟨v1, hB⟩ := w3_on hb1
    have c0 := v1.fst
    have c1 := v1.snd
    have f0 := v1.free 0
    have f1 := v1.free 1
    have V1 := Lib.hid v1
    clear v1 hb1
    go_wp2
    exact bodyPost_ret (results_valE rfl _ _ (w.heap.size + 1 + 1) 25 _ _ _ _ rfl rfl (V1.out.put _ _) Tryd.underlying25 val_info) rfl ⟨rfl, below_put hB (by omega) _ _⟩
  · have h' : ka ≠ 1 ∨ kb ≠ 1 := by
      by_cases h1 : ka = 1
      · exact .inr fun h2 => h ⟨h1, h2⟩
      · exact .inl h1
    rw [did_else _ h']
    have H := Lib.hid h'
    clear h h'
    go_enter Tryd.func10, Tryd.ntmps10
    go_wp2_with fail
    refine (com_else _ _ _ _ _ _ H.out).mono ?_
    rintro e w1 ⟨rfl, hb1⟩
    obtain ⟨v1, hB⟩ := w3_on hb1
    have c0 := v1.fst
    have c1 := v1.snd
    have f0 := v1.free 0
    have f1 := v1.free 1
    have V1 := Lib.hid v1
    clear v1 hb1
    go_wp2
    exact bodyPost_ret (results_valE rfl _ _ (w.heap.size + 1 + 1) 25 _ _ _ _ rfl rfl (V1.out.put _ _) Tryd.underlying25 val_info) rfl ⟨rfl, below_put hB (by omega) _ _⟩
set_option maxHeartbeats 1000000 in
theorem radd_ints (a b : Int) (w : World) :
    Calls Tryd.prog 13 #[.int .u8 43, .agg #[.int .i64 1, .int .i64 a], .agg #[.int .i64 1, .int .i64 b]] w fun e w' => e = .returned (.tuple #[.agg #[.int .i64 1, .int .i64 (wrap64 (a + b))], .int .i64 0]) ∧ Below w.heap.size w w' := by
  have HB := Lib.hid ((((Below.refl w.heap.size w).alloc (Nat.le_refl _) (.cells #[.int .i64 1, .int .i64 a] 23)).alloc (by simp) (.cells #[.int .i64 1, .int .i64 b] 23)).alloc (by simp; omega) (.cells #[.int .i64 1, .int .i64 (wrap64 (a + b))] 23))
  have HV := Lib.hid (valAt_new ((w.alloc (.cells #[.int .i64 1, .int .i64 a] 23)).alloc (.cells #[.int .i64 1, .int .i64 b] 23)) 1 (wrap64 (a + b)) 23)
  go_enter Tryd.func13, Tryd.ntmps13
  go_wp2
  exact bodyPost_ret (results_valE rfl _ _ (w.heap.size + 1 + 1) 23 _ _ _ _ rfl rfl (by simpa using HV.out) Tryd.underlying23 rval_info) rfl ⟨rfl, HB.out⟩
set_option maxHeartbeats 1000000 in
theorem subF_any (a b : Int) (w : World) :
    Calls Tryd.prog 25 #[.int .i64 a, .int .i64 b] w fun e w' => e = .returned (.agg #[.int .i64 1, .int .i64 (wrap64 (a - b))]) ∧ Below w.heap.size w w' := by
  go_enter Tryd.func25, Tryd.ntmps25
  go_wp2
  exact bodyPost_ret (results_val rfl _ _ w.heap.size 25 _ _ _ rfl (valAt_new _ _ _ _) Tryd.underlying25 val_info) rfl ⟨rfl, below_new _ _⟩
set_option maxHeartbeats 1000000 in
theorem comSub_ints (a b : Int) (w : World) :
    Calls Tryd.prog 23 #[.agg #[.int .i64 1, .int .i64 a], .agg #[.int .i64 1, .int .i64 b], .func (.func 25) #[] #[]] w fun e w' => e = .returned (.tuple #[.agg #[.int .i64 1, .int .i64 (wrap64 (a - b))], .int .i64 0]) ∧ Below w.heap.size w w' := by
  go_enter Tryd.func23, Tryd.ntmps23
  go_wp2_with fail
  refine (subF_any _ _ _).mono ?_
  rintro e w1 ⟨rfl, hb1⟩
  obtain ⟨v1, hB⟩ := w3_on hb1
  have c0 := v1.fst
  have c1 := v1.snd
  have f0 := v1.free 0
  have f1 := v1.free 1
  have V1 := Lib.hid v1
  clear v1 hb1
  go_wp2
  exact bodyPost_ret (results_valE rfl _ _ (w.heap.size + 1 + 1) 25 _ _ _ _ rfl rfl (V1.out.put _ _) Tryd.underlying25 val_info) rfl ⟨rfl, below_put hB (by omega) _ _⟩
set_option maxHeartbeats 1000000 in
theorem sub_any (ka a kb b : Int) (w : World) :
    Calls Tryd.prog 11 #[.agg #[.int .i64 ka, .int .i64 a], .agg #[.int .i64 kb, .int .i64 b]] w fun e w' => e = .returned (valE (did (· - ·) ka a kb b)) ∧ Below w.heap.size w w' := by
  unfold valE
  by_cases h : ka = 1 ∧ kb = 1
  · obtain ⟨rfl, rfl⟩ := h
    rw [did_ints]
    go_enter Tryd.func11, Tryd.ntmps11
    go_wp2_with fail
    refine (comSub_ints _ _ _).mono ?_
    rintro e w1 ⟨rfl, hb1⟩
    obtain ⟨v1, hB⟩ := w3_on hb1
    have c0 := v1.fst
    have c1 := v1.snd
    have f0 := v1.free 0
    have f1 := v1.free 1
    have V1 := Lib.hid v1
    clear v1 hb1
    go_wp2
    exact bodyPost_ret (results_valE rfl _ _ (w.heap.size + 1 + 1) 25 _ _ _ _ rfl rfl (V1.out.put _ _) Tryd.underlying25 val_info) rfl ⟨rfl, below_put hB (by omega) _ _⟩
  · have h' : ka ≠ 1 ∨ kb ≠ 1 := by
      by_cases h1 : ka = 1
      · exact .inr fun h2 => h ⟨h1, h2⟩
      · exact .inl h1
    rw [did_else _ h']
    have H := Lib.hid h'
    clear h h'
    go_enter Tryd.func11, Tryd.ntmps11
    go_wp2_with fail
    refine (com_else _ _ _ _ _ _ H.out).mono ?_
    rintro e w1 ⟨rfl, hb1⟩
    obtain ⟨v1, hB⟩ := w3_on hb1
    have c0 := v1.fst
    have c1 := v1.snd
    have f0 := v1.free 0
    have f1 := v1.free 1
    have V1 := Lib.hid v1
    clear v1 hb1
    go_wp2
    exact bodyPost_ret (results_valE rfl _ _ (w.heap.size + 1 + 1) 25 _ _ _ _ rfl rfl (V1.out.put _ _) Tryd.underlying25 val_info) rfl ⟨rfl, below_put hB (by omega) _ _⟩
set_option maxHeartbeats 1000000 in
theorem rsub_ints (a b : Int) (w : World) :
    Calls Tryd.prog 13 #[.int .u8 45, .agg #[.int .i64 1, .int .i64 a], .agg #[.int .i64 1, .int .i64 b]] w fun e w' => e = .returned (.tuple #[.agg #[.int .i64 1, .int .i64 (wrap64 (a - b))], .int .i64 0]) ∧ Below w.heap.size w w' := by
  have HB := Lib.hid ((((Below.refl w.heap.size w).alloc (Nat.le_refl _) (.cells #[.int .i64 1, .int .i64 a] 23)).alloc (by simp) (.cells #[.int .i64 1, .int .i64 b] 23)).alloc (by simp; omega) (.cells #[.int .i64 1, .int .i64 (wrap64 (a - b))] 23))
  have HV := Lib.hid (valAt_new ((w.alloc (.cells #[.int .i64 1, .int .i64 a] 23)).alloc (.cells #[.int .i64 1, .int .i64 b] 23)) 1 (wrap64 (a - b)) 23)
  go_enter Tryd.func13, Tryd.ntmps13
  go_wp2
  exact bodyPost_ret (results_valE rfl _ _ (w.heap.size + 1 + 1) 23 _ _ _ _ rfl rfl (by simpa using HV.out) Tryd.underlying23 rval_info) rfl ⟨rfl, HB.out⟩
set_option maxHeartbeats 1000000 in
theorem mulF_any (a b : Int) (w : World) :
    Calls Tryd.prog 26 #[.int .i64 a, .int .i64 b] w fun e w' => e = .returned (.agg #[.int .i64 1, .int .i64 (wrap64 (a * b))]) ∧ Below w.heap.size w w' := by
  go_enter Tryd.func26, Tryd.ntmps26
  go_wp2
  exact bodyPost_ret (results_val rfl _ _ w.heap.size 25 _ _ _ rfl (valAt_new _ _ _ _) Tryd.underlying25 val_info) rfl ⟨rfl, below_new _ _⟩
set_option maxHeartbeats 1000000 in
theorem comMul_ints (a b : Int) (w : World) :
    Calls Tryd.prog 23 #[.agg #[.int .i64 1, .int .i64 a], .agg #[.int .i64 1, .int .i64 b], .func (.func 26) #[] #[]] w fun e w' => e = .returned (.tuple #[.agg #[.int .i64 1, .int .i64 (wrap64 (a * b))], .int .i64 0]) ∧ Below w.heap.size w w' := by
  go_enter Tryd.func23, Tryd.ntmps23
  go_wp2_with fail
  refine (mulF_any _ _ _).mono ?_
  rintro e w1 ⟨rfl, hb1⟩
  obtain ⟨v1, hB⟩ := w3_on hb1
  have c0 := v1.fst
  have c1 := v1.snd
  have f0 := v1.free 0
  have f1 := v1.free 1
  have V1 := Lib.hid v1
  clear v1 hb1
  go_wp2
  exact bodyPost_ret (results_valE rfl _ _ (w.heap.size + 1 + 1) 25 _ _ _ _ rfl rfl (V1.out.put _ _) Tryd.underlying25 val_info) rfl ⟨rfl, below_put hB (by omega) _ _⟩
set_option maxHeartbeats 1000000 in
theorem mul_any (ka a kb b : Int) (w : World) :
    Calls Tryd.prog 12 #[.agg #[.int .i64 ka, .int .i64 a], .agg #[.int .i64 kb, .int .i64 b]] w fun e w' => e = .returned (valE (did (· * ·) ka a kb b)) ∧ Below w.heap.size w w' := by
  unfold valE
  by_cases h : ka = 1 ∧ kb = 1
  · obtain ⟨rfl, rfl⟩ := h
    rw [did_ints]
    go_enter Tryd.func12, Tryd.ntmps12
    go_wp2_with fail
    refine (comMul_ints _ _ _).mono ?_
    rintro e w1 ⟨rfl, hb1⟩
    obtain ⟨v1, hB⟩ := w3_on hb1
    have c0 := v1.fst
    have c1 := v1.snd
    have f0 := v1.free 0
    have f1 := v1.free 1
    have V1 := Lib.hid v1
    clear v1 hb1
    go_wp2
    exact bodyPost_ret (results_valE rfl _ _ (w.heap.size + 1 + 1) 25 _ _ _ _ rfl rfl (V1.out.put _ _) Tryd.underlying25 val_info) rfl ⟨rfl, below_put hB (by omega) _ _⟩
  · have h' : ka ≠ 1 ∨ kb ≠ 1 := by
      by_cases h1 : ka = 1
      · exact .inr fun h2 => h ⟨h1, h2⟩
      · exact .inl h1
    rw [did_else _ h']
    have H := Lib.hid h'
    clear h h'
    go_enter Tryd.func12, Tryd.ntmps12
    go_wp2_with fail
    refine (com_else _ _ _ _ _ _ H.out).mono ?_
    rintro e w1 ⟨rfl, hb1⟩
    obtain ⟨v1, hB⟩ := w3_on hb1
    have c0 := v1.fst
    have c1 := v1.snd
    have f0 := v1.free 0
    have f1 := v1.free 1
    have V1 := Lib.hid v1
    clear v1 hb1
    go_wp2
    exact bodyPost_ret (results_valE rfl _ _ (w.heap.size + 1 + 1) 25 _ _ _ _ rfl rfl (V1.out.put _ _) Tryd.underlying25 val_info) rfl ⟨rfl, below_put hB (by omega) _ _⟩
set_option maxHeartbeats 1000000 in
theorem rmul_ints (a b : Int) (w : World) :
    Calls Tryd.prog 13 #[.int .u8 42, .agg #[.int .i64 1, .int .i64 a], .agg #[.int .i64 1, .int .i64 b]] w fun e w' => e = .returned (.tuple #[.agg #[.int .i64 1, .int .i64 (wrap64 (a * b))], .int .i64 0]) ∧ Below w.heap.size w w' := by
  have HB := Lib.hid ((((Below.refl w.heap.size w).alloc (Nat.le_refl _) (.cells #[.int .i64 1, .int .i64 a] 23)).alloc (by simp) (.cells #[.int .i64 1, .int .i64 b] 23)).alloc (by simp; omega) (.cells #[.int .i64 1, .int .i64 (wrap64 (a * b))] 23))
  have HV := Lib.hid (valAt_new ((w.alloc (.cells #[.int .i64 1, .int .i64 a] 23)).alloc (.cells #[.int .i64 1, .int .i64 b] 23)) 1 (wrap64 (a * b)) 23)
  go_enter Tryd.func13, Tryd.ntmps13
  go_wp2
  exact bodyPost_ret (results_valE rfl _ _ (w.heap.size + 1 + 1) 23 _ _ _ _ rfl rfl (by simpa using HV.out) Tryd.underlying23 rval_info) rfl ⟨rfl, HB.out⟩
/-- the three of them, in a row: the function's number, its sign, and what it makes of two numbers. -/
def fnOf : Nat → Nat | 0 => 10 | 1 => 11 | _ => 12
def signOf : Nat → Int | 0 => 43 | 1 => 45 | _ => 42
def opOf : Nat → Int → Int → Int | 0 => (· + ·) | 1 => (· - ·) | _ => (· * ·)
theorem rdo_any (i : Nat) (ka a kb b : Int) (w : World) :
    Calls Tryd.prog 13 #[.int .u8 (signOf i), .agg #[.int .i64 ka, .int .i64 a], .agg #[.int .i64 kb, .int .i64 b]] w fun e w' => e = .returned (valE (did (opOf i) ka a kb b)) ∧ Below w.heap.size w w' := by
  by_cases h : ka = 1 ∧ kb = 1
  · obtain ⟨rfl, rfl⟩ := h
    rw [did_ints]
    match i with
    | 0 => exact radd_ints a b w
    | 1 => exact rsub_ints a b w
    | (n + 2) => exact rmul_ints a b w
  · have h' : ka ≠ 1 ∨ kb ≠ 1 := by
      by_cases h1 : ka = 1
      · exact .inr fun h2 => h ⟨h1, h2⟩
      · exact .inl h1
    rw [did_else _ h']
    exact rdo_else _ _ _ _ _ w h'
theorem do_any (i : Nat) (ka a kb b : Int) (w : World) :
    Calls Tryd.prog (fnOf i) #[.agg #[.int .i64 ka, .int .i64 a], .agg #[.int .i64 kb, .int .i64 b]] w fun e w' => e = .returned (valE (did (opOf i) ka a kb b)) ∧ Below w.heap.size w w' := by
  match i with
  | 0 => exact add_any ka a kb b w
  | 1 => exact sub_any ka a kb b w
  | (n + 2) => exact mul_any ka a kb b w
end Go.Proofs.YtpfoehcgcofgpaaDoor
