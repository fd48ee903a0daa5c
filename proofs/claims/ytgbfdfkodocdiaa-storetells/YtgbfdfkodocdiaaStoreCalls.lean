/-
  Contracts of store's calls that read, put and mark.
-/
import Derived.Test.YtgbfdfkodocdiaaStoreRows
import Derived.Test.YtgbfdfkodocdiaaMRefSet
namespace Go.Proofs.Ytgbfdfkodocdiaa
open Go.RowKit St
theorem shas_any (A : Option Addr) (n c : Nat) (x : Int) (w : World) :
    Calls Try.prog 26 #[.slice A n c, .int .i64 x] w fun e w' => e = .returned (.bool (decide (0 ≤ x ∧ x < (n : Int)))) ∧ w = w' := by
  by_cases h0 : 0 ≤ x
  · go_enter Try.func26, Try.ntmps26
    go_wp2
    go_ret
    exact ⟨ret_bool (by rw [Bool.eq_iff_iff]; simp [h0]), rfl⟩
  · have hd : decide (0 ≤ x) = false := by simpa using h0
    have HD := Lib.hid (show decide (0 ≤ x ∧ x < (n : Int)) = false from decide_eq_false (fun h => h0 h.1))
    go_enter Try.func26, Try.ntmps26
    go_wp2
    go_ret
    exact ⟨ret_bool (by simp), rfl⟩
theorem has_yes (A : Option Addr) (c : Nat) {L : List Vr} {x : Int} (w : World) (h : has L x) :
    Calls Try.prog 26 #[.slice A L.length c, .int .i64 x] w fun e w' => e = .returned (.bool true) ∧ w = w' := by
  have := shas_any A L.length c x w
  rwa [decide_eq_true (show 0 ≤ x ∧ x < (L.length : Int) from h)] at this
theorem has_no (A : Option Addr) (c : Nat) {L : List Vr} {x : Int} (w : World) (h : ¬ has L x) :
    Calls Try.prog 26 #[.slice A L.length c, .int .i64 x] w fun e w' => e = .returned (.bool false) ∧ w = w' := by
  have := shas_any A L.length c x w
  rwa [decide_eq_false (show ¬ (0 ≤ x ∧ x < (L.length : Int)) from h)] at this
theorem slot_any (s : Int) (w : World) :
    Calls Try.prog 28 #[.int .i64 s] w fun e w' => e = .returned (.bool (decide (slot s))) ∧ w = w' := by
  unfold slot
  by_cases h0 : 0 ≤ s
  · go_enter Try.func28, Try.ntmps28
    go_wp2
    go_ret
    exact ⟨ret_bool (by rw [Bool.eq_iff_iff]; simp [h0]), rfl⟩
  · have hd : decide (0 ≤ s) = false := by simpa using h0
    have HD := Lib.hid (show decide (0 ≤ s ∧ s < 32) = false from decide_eq_false (fun h => h0 h.1))
    go_enter Try.func28, Try.ntmps28
    go_wp2
    go_ret
    exact ⟨ret_bool HD.out.symm, rfl⟩
theorem slot_yes {s : Int} (w : World) (h : slot s) : Calls Try.prog 28 #[.int .i64 s] w fun e w' => e = .returned (.bool true) ∧ w = w' := by
  have := slot_any s w
  rwa [decide_eq_true h] at this
theorem slot_no {s : Int} (w : World) (h : ¬ slot s) : Calls Try.prog 28 #[.int .i64 s] w fun e w' => e = .returned (.bool false) ∧ w = w' := by
  have := slot_any s w
  rwa [decide_eq_false h] at this
theorem var_size : (Try.prog.info? 35).map (·.size) = some 5 := by kernel_rfl
theorem rvar_size : (Try.prog.info? 40).map (·.size) = some 5 := by kernel_rfl
theorem results_var {fn : Func} {p u : Tmp} {ty : TypeId} (h : fn.results = #[.cell p ty, .tmp u]) (tmps : Array Value) (w : World) (b : Nat) (t : TypeId) (v : Vr) (fs : _) (x : Value) (hp : tmps.getD p undef = .pointer (some ⟨b, 0, none⟩)) (hx : tmps.getD u undef = x) (hv : VarAt w b t v)
    (hu : Try.prog.underlying ty = some (.struct fs)) (hi : (Try.prog.info? ty).map (·.size) = some 5) : (results fn tmps).run Try.prog w = .ok (.tuple #[.agg (varA v), x]) w := by
  rw [results_cell_tmp h, hp, hx]
  simp [asAddr, Result.andThen, run_loadVar_row w b t ty _ (0, 0) _ hv.is hu rfl hi]
/-- a variable is stored into its block, cell by cell. -/
def putB (w : World) (b : Nat) (v : Vr) : World := ((((w.setCell ⟨b, 0, none⟩ (.int .i64 v.k)).setCell ⟨b, 1, none⟩ (.int .i64 v.n)).setCell ⟨b, 2, none⟩ (.int .i64 v.ver)).setCell ⟨b, 3, none⟩ (.int .i64 v.wr)).setCell ⟨b, 4, none⟩ (.int .u64 (v.m : Nat))
theorem VarAt.put {w : World} {b : Nat} {t : TypeId} {v : Vr} (h : VarAt w b t v) (v' : Vr) : VarAt (putB w b v') b t v' := by
  constructor
  have := h.is
  simp [putB, varA, World.setCell, Array.getElem?_modify, this]
theorem below_putB {w : World} {B b : Nat} {a : World} (h : Below B a w) (hb : B ≤ b) (v : Vr) : Below B a (putB w b v) := ((((h.setCell hb _).setCell hb _).setCell hb _).setCell hb _).setCell hb _
/-- a new block of nought. -/
def new0 (w : World) (t : TypeId) : World := w.alloc (.cells #[.int .i64 0, .int .i64 0, .int .i64 0, .int .i64 0, .int .u64 0] t)
theorem new0_at (w : World) (t : TypeId) : VarAt (new0 w t) w.heap.size t zero := varAt_new w zero t
theorem new0_below (w : World) (t : TypeId) : Below w.heap.size w (new0 w t) := below_new w _
def putZ (w : World) (b : Nat) : World := ((((w.setCell ⟨b, 0, none⟩ (.int .i64 0)).setCell ⟨b, 1, none⟩ (.int .i64 0)).setCell ⟨b, 2, none⟩ (.int .i64 0)).setCell ⟨b, 3, none⟩ (.int .i64 0)).setCell ⟨b, 4, none⟩ (.int .u64 0)
theorem putZ_eq (w : World) (b : Nat) : putZ w b = putB w b zero := rfl
def getR (L : List Vr) (x : Int) : Value := .tuple #[.agg (varA (getV L x)), .int .i64 (getE L x)]
theorem getR_yes {L : List Vr} {x : Int} (h : has L x) : getR L x = .tuple #[.agg (varA (at_ L x)), .int .i64 0] := by unfold getR getV getE; rw [if_pos h, if_pos h]
theorem getR_no {L : List Vr} {x : Int} (h : ¬ has L x) : getR L x = .tuple #[.agg #[.int .i64 0, .int .i64 0, .int .i64 0, .int .i64 0, .int .u64 0], .int .i64 3] := by unfold getR getV getE; rw [if_neg h, if_neg h]; rfl
set_option maxHeartbeats 1000000 in
theorem get_any (A : Option Addr) (c : Nat) (L : List Vr) (x : Int) (w : World) (h : VarsAt w A L) :
    Calls Try.prog 11 #[.slice A L.length c, .int .i64 x] w fun e w' => e = .returned (getR L x) ∧ Below w.heap.size w w' := by
  have H := Lib.hid h
  clear h
  have HV := Lib.hid (new0_at w 35)
  have HB := Lib.hid (new0_below w 35)
  by_cases hx : has L x
  · have HX := Lib.hid hx
    obtain ⟨j, rfl⟩ := Int.eq_ofNat_of_zero_le hx.1
    have hj : j < L.length := by have := hx.2; omega
    obtain ⟨ad, v, rfl, hv, hok, h5⟩ := (H.out.below HB.out (Nat.le_refl _)).at_ hj
    obtain ⟨c0, c1, c2, c3, c4⟩ := h5
    have hat : at_ L (j : Nat) = v := by have := at_mem hx; rw [Int.toNat_natCast, hv] at this; exact (Option.some.inj this).symm
    rw [getR_yes hx, hat]
    have HP := Lib.hid (varAt_new w v 35)
    have HPB := Lib.hid (below_new w (.cells (varA v) 35))
    clear hv hok hx hat
    unfold varA new0 at *
    go_enter Try.func11, Try.ntmps11
    go_wp2_with (go_at_call 26; refine (has_yes _ _ _ HX.out).mono ?_; rintro e w' ⟨rfl, rfl⟩)
    exact bodyPost_ret (results_var rfl _ _ w.heap.size 35 v _ _ rfl rfl HP.out Try.underlying35 var_size) rfl ⟨rfl, HPB.out⟩
  · have HX := Lib.hid hx
    rw [getR_no hx]
    clear hx
    unfold new0 at *
    go_enter Try.func11, Try.ntmps11
    go_wp2_with (go_at_call 26; refine (has_no _ _ _ HX.out).mono ?_; rintro e w' ⟨rfl, rfl⟩)
    exact bodyPost_ret (results_var rfl _ _ w.heap.size 35 zero _ _ rfl rfl HV.out Try.underlying35 var_size) rfl ⟨rfl, HB.out⟩
set_option maxHeartbeats 1000000 in
theorem rget_any (A : Option Addr) (c : Nat) (L : List Vr) (x : Int) (w : World) (h : VarsAt w A L) :
    Calls Try.prog 12 #[.slice A L.length c, .int .i64 x] w fun e w' => e = .returned (getR L x) ∧ Below w.heap.size w w' := by
  have H := Lib.hid h
  clear h
  have HV := Lib.hid (new0_at w 40)
  have HB := Lib.hid (new0_below w 40)
  by_cases hx : has L x
  · have HX := Lib.hid hx
    obtain ⟨j, rfl⟩ := Int.eq_ofNat_of_zero_le hx.1
    have hj : j < L.length := by have := hx.2; omega
    obtain ⟨ad, v, rfl, hv, hok, h5⟩ := (H.out.below HB.out (Nat.le_refl _)).at_ hj
    obtain ⟨c0, c1, c2, c3, c4⟩ := h5
    have hat : at_ L (j : Nat) = v := by have := at_mem hx; rw [Int.toNat_natCast, hv] at this; exact (Option.some.inj this).symm
    rw [getR_yes hx, hat]
    have HP := Lib.hid (varAt_new w v 40)
    have HPB := Lib.hid (below_new w (.cells (varA v) 40))
    clear hv hok hx hat
    unfold varA new0 at *
    have h1 : ¬ ((j : Int) < 0) := by omega
    have h2 : ¬ ((L.length : Int) ≤ (j : Int)) := by omega
    go_enter Try.func12, Try.ntmps12
    go_wp2
    exact bodyPost_ret (results_var rfl _ _ w.heap.size 40 v _ _ rfl rfl HP.out Try.underlying40 rvar_size) rfl ⟨rfl, HPB.out⟩
  · rw [getR_no hx]
    unfold new0 at *
    by_cases hn : x < 0
    · have hd : decide (x < 0) = true := by simpa using hn
      clear hx
      go_enter Try.func12, Try.ntmps12
      go_wp2
      exact bodyPost_ret (results_var rfl _ _ w.heap.size 40 zero _ _ rfl rfl HV.out Try.underlying40 rvar_size) rfl ⟨rfl, HB.out⟩
    · have hd : decide (x < 0) = false := by simpa using hn
      have hg : (L.length : Int) ≤ x := by unfold has at hx; omega
      clear hx
      go_enter Try.func12, Try.ntmps12
      go_wp2
      exact bodyPost_ret (results_var rfl _ _ w.heap.size 40 zero _ _ rfl rfl HV.out Try.underlying40 rvar_size) rfl ⟨rfl, HB.out⟩
set_option maxHeartbeats 1000000 in
theorem right_any (k n : Int) (w : World) :
    Calls Try.prog 27 #[.agg #[.int .i64 k, .int .i64 n]] w fun e w' => e = .returned (.bool (right k n)) ∧ Below w.heap.size w w' := by
  unfold right
  by_cases h0 : k = 0
  · subst h0
    go_enter Try.func27, Try.ntmps27
    go_wp2
    go_ret
    exact ⟨rfl, below_new _ _⟩
  by_cases h1 : k = 1
  · subst h1
    go_enter Try.func27, Try.ntmps27
    go_wp2
    go_ret
    exact ⟨rfl, below_new _ _⟩
  by_cases h2 : k = 2
  · subst h2
    by_cases hn : 0 ≤ n
    · have hd : decide (0 ≤ n) = true := by simpa using hn
      go_enter Try.func27, Try.ntmps27
      go_wp2
      go_ret
      exact ⟨rfl, below_new _ _⟩
    · have hd : decide (0 ≤ n) = false := by simpa using hn
      go_enter Try.func27, Try.ntmps27
      go_wp2
      go_ret
      exact ⟨rfl, below_new _ _⟩
  · go_enter Try.func27, Try.ntmps27
    go_wp2
    go_ret
    exact ⟨rfl, below_new _ _⟩
set_option maxHeartbeats 1000000 in
theorem rright_any (k n : Int) (w : World) :
    Calls Try.prog 30 #[.agg #[.int .i64 k, .int .i64 n]] w fun e w' => e = .returned (.bool (right k n)) ∧ Below w.heap.size w w' := by
  unfold right
  by_cases h0 : k = 0
  · subst h0
    go_enter Try.func30, Try.ntmps30
    go_wp2
    go_ret
    exact ⟨rfl, below_new _ _⟩
  by_cases h1 : k = 1
  · subst h1
    go_enter Try.func30, Try.ntmps30
    go_wp2
    go_ret
    exact ⟨rfl, below_new _ _⟩
  by_cases h2 : k = 2
  · subst h2
    by_cases hn : 0 ≤ n
    · have hd : decide (0 ≤ n) = true := by simpa using hn
      go_enter Try.func30, Try.ntmps30
      go_wp2
      go_ret
      exact ⟨rfl, below_new _ _⟩
    · have hd : decide (0 ≤ n) = false := by simpa using hn
      go_enter Try.func30, Try.ntmps30
      go_wp2
      go_ret
      exact ⟨rfl, below_new _ _⟩
  · go_enter Try.func30, Try.ntmps30
    go_wp2
    go_ret
    exact ⟨rfl, below_new _ _⟩
theorem right_val (k n : Int) (b : Bool) (w : World) (h : right k n = b) :
    Calls Try.prog 27 #[.agg #[.int .i64 k, .int .i64 n]] w fun e w' => e = .returned (.bool b) ∧ Below w.heap.size w w' := by
  have := right_any k n w
  rwa [h] at this
theorem rright_val (k n : Int) (b : Bool) (w : World) (h : right k n = b) :
    Calls Try.prog 30 #[.agg #[.int .i64 k, .int .i64 n]] w fun e w' => e = .returned (.bool b) ∧ Below w.heap.size w w' := by
  have := rright_any k n w
  rwa [h] at this
end Go.Proofs.Ytgbfdfkodocdiaa
