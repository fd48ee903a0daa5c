/-
  Contracts of the statements' own helper 'of' and of the document's answers for spans: each returns what the plain mathematics of pairs says, and changes nothing that was there.
-/
import Derived.Test.YtadendkkcdaleaaSpanAlive
import Derived.Below
import Derived.Laws.Rows
namespace Go.Proofs.Ytadendkkcdaleaa
open Go.RowKit Fl
/-- the document's span as a value. -/
def rc (o : Sp) : Array Value := #[.int .i64 (bg o), .int .i64 (en o), .bool o.isSome]
def rv (o : Sp) : Value := .agg (rc o)
theorem rspan_info : (Try.prog.info? 29).map (·.size) = some 3 := by kernel_rfl
set_option maxHeartbeats 400000 in
theorem two_any (b e : Int) (w : World) :
    Calls Try.prog 10 #[.agg #[.int .i64 b, .int .i64 e]] w fun en w' => en = .returned (ans (mk b e)) ∧ w.alloc (.cells #[.int .i64 b, .int .i64 e] 23) = w' := by
  go_enter Try.func10, Try.ntmps10
  go_wp2_with fail
  refine (of_any _ _ _).mono ?_
  rintro e w' ⟨rfl, rfl⟩
  unfold ans
  go_wp2
  go_ret2
  exact ⟨rfl, rfl⟩
theorem two_at (b e : Int) (o : Sp) (w : World) (h : mk b e = o) :
    Calls Try.prog 10 #[.agg #[.int .i64 b, .int .i64 e]] w fun en w' => en = .returned (ans o) ∧ w.alloc (.cells #[.int .i64 b, .int .i64 e] 23) = w' := by
  subst h; exact two_any b e w
theorem rc_none : rc none = #[.int .i64 0, .int .i64 0, .bool false] := rfl
theorem rc_mk {b e : Int} (h : 0 ≤ b ∧ b ≤ e ∧ e ≤ 9007199254740992) : rc (mk b e) = #[.int .i64 b, .int .i64 e, .bool true] := by
  rw [mk_some h]
  show #[Value.int .i64 ((b.toNat : Nat) : Int), .int .i64 ((e.toNat : Nat) : Int), .bool true] = _
  rw [Int.toNat_of_nonneg (by omega), Int.toNat_of_nonneg (by omega)]
set_option maxHeartbeats 400000 in
theorem rof_any (b e : Int) (w : World) :
    Calls Try.prog 11 #[.int .i64 b, .int .i64 e] w fun en w' => en = .returned (rv (mk b e)) ∧ w.alloc (.cells (rc (mk b e)) 29) = w' := by
  by_cases h1 : b < 0
  · have HR := Lib.hid (mk_none (b := b) (e := e) (by omega))
    go_enter Try.func11, Try.ntmps11
    go_wp2
    refine bodyPost_ret (results_cell_row rfl _ _ w.heap.size 29 _ (0, 0) _ rfl (heap_alloc_new _ _) Try.underlying29 rfl rspan_info) rfl ?_
    rw [HR.out]; exact ⟨rfl, rfl⟩
  · have d1 : decide (b < 0) = false := by simp; omega
    by_cases h2 : e < b
    · have HR := Lib.hid (mk_none (b := b) (e := e) (by omega))
      clear h1
      go_enter Try.func11, Try.ntmps11
      go_wp2
      refine bodyPost_ret (results_cell_row rfl _ _ w.heap.size 29 _ (0, 0) _ rfl (heap_alloc_new _ _) Try.underlying29 rfl rspan_info) rfl ?_
      rw [HR.out]; exact ⟨rfl, rfl⟩
    · have d2 : decide (e < b) = false := by simp; omega
      by_cases h3 : 9007199254740992 < e
      · have HR := Lib.hid (mk_none (b := b) (e := e) (by omega))
        clear h1 h2
        go_enter Try.func11, Try.ntmps11
        go_wp2
        refine bodyPost_ret (results_cell_row rfl _ _ w.heap.size 29 _ (0, 0) _ rfl (heap_alloc_new _ _) Try.underlying29 rfl rspan_info) rfl ?_
        rw [HR.out]; exact ⟨rfl, rfl⟩
      · have d3 : decide (9007199254740992 < e) = false := by simp; omega
        have HR := Lib.hid (rc_mk (b := b) (e := e) (by omega))
        clear h1 h2 h3
        go_enter Try.func11, Try.ntmps11
        go_wp2
        refine bodyPost_ret (results_cell_row rfl _ _ w.heap.size 29 _ (0, 0) _ rfl (heap_alloc_new _ _) Try.underlying29 rfl rspan_info) rfl ?_
        unfold rv
        rw [HR.out]; exact ⟨rfl, rfl⟩
theorem rof_at (b e : Int) (o : Sp) (w : World) (h : mk b e = o) :
    Calls Try.prog 11 #[.int .i64 b, .int .i64 e] w fun en w' => en = .returned (rv o) ∧ w.alloc (.cells (rc o) 29) = w' := by
  subst h; exact rof_any b e w
theorem below1 (w : World) (A : Obj) : Below w.heap.size w (w.alloc A) := (Below.refl _ _).alloc (Nat.le_refl _) _
theorem below2 (w : World) (A B : Obj) : Below w.heap.size w ((w.alloc A).alloc B) := (below1 w A).alloc (below1 w A).size _
theorem below3 (w : World) (A B C : Obj) : Below w.heap.size w (((w.alloc A).alloc B).alloc C) := (below2 w A B).alloc (below2 w A B).size _
theorem below4 (w : World) (A B C D : Obj) : Below w.heap.size w ((((w.alloc A).alloc B).alloc C).alloc D) := (below3 w A B C).alloc (below3 w A B C).size _
set_option maxHeartbeats 400000 in
theorem rbefore_any (s t : Sp) (w : World) :
    Calls Try.prog 16 #[rv s, rv t] w fun en w' => en = .returned (.bool (bf s t)) ∧ (w.alloc (.cells (rc s) 29)).alloc (.cells (rc t) 29) = w' := by
  unfold rv rc
  cases s with
  | none =>
    go_enter Try.func16, Try.ntmps16
    go_wp2
    go_ret
    exact ⟨rfl, rfl⟩
  | some p =>
    cases t with
    | none =>
      go_enter Try.func16, Try.ntmps16
      go_wp2
      go_ret
      exact ⟨rfl, rfl⟩
    | some q =>
      have HR := Lib.hid (show decide (en (some p) < bg (some q)) = bf (some p) (some q) from rfl)
      go_enter Try.func16, Try.ntmps16
      go_wp2
      go_ret
      exact ⟨ret_bool HR.out, rfl⟩
theorem rbefore_val (s t : Sp) (v : Bool) (w : World) (h : bf s t = v) :
    Calls Try.prog 16 #[rv s, rv t] w fun en w' => en = .returned (.bool v) ∧ (w.alloc (.cells (rc s) 29)).alloc (.cells (rc t) 29) = w' := by
  subst h; exact rbefore_any s t w
set_option maxHeartbeats 400000 in
theorem rmeet_any (s t : Sp) (w : World) :
    Calls Try.prog 18 #[rv s, rv t] w fun en w' => en = .returned (.bool (mts s t)) ∧ Below w.heap.size w w' := by
  unfold rv rc
  cases s with
  | none =>
    go_enter Try.func18, Try.ntmps18
    go_wp2
    go_ret
    exact ⟨rfl, below2 _ _ _⟩
  | some p =>
    cases t with
    | none =>
      go_enter Try.func18, Try.ntmps18
      go_wp2
      go_ret
      exact ⟨rfl, below2 _ _ _⟩
    | some q =>
      cases hb : bf (some p) (some q)
      · have HR := Lib.hid (show (!bf (some q) (some p)) = mts (some p) (some q) by unfold mts; rw [hb]; rfl)
        have HB := Lib.hid hb
        clear hb
        go_enter Try.func18, Try.ntmps18
        go_wp2_with fail
        refine (rbefore_val (some p) (some q) _ _ HB.out).mono ?_
        rintro e w' ⟨rfl, rfl⟩
        unfold rc
        go_wp2_with fail
        refine (rbefore_any (some q) (some p) _).mono ?_
        rintro e w' ⟨rfl, rfl⟩
        unfold rc
        go_wp2
        go_ret
        refine ⟨ret_bool HR.out, ?_⟩
        have h4 := below4 w (.cells #[.int .i64 (bg (some p)), .int .i64 (en (some p)), .bool (some p).isSome] 29) (.cells #[.int .i64 (bg (some q)), .int .i64 (en (some q)), .bool (some q).isSome] 29) (.cells #[.int .i64 (bg (some p)), .int .i64 (en (some p)), .bool (some p).isSome] 29) (.cells #[.int .i64 (bg (some q)), .int .i64 (en (some q)), .bool (some q).isSome] 29)
        have h5 := h4.alloc h4.size (.cells #[.int .i64 (bg (some q)), .int .i64 (en (some q)), .bool (some q).isSome] 29)
        exact h5.alloc h5.size _
      · have HR := Lib.hid (show mts (some p) (some q) = false by unfold mts; rw [hb]; rfl)
        have HB := Lib.hid hb
        clear hb
        go_enter Try.func18, Try.ntmps18
        go_wp2_with fail
        refine (rbefore_val (some p) (some q) _ _ HB.out).mono ?_
        rintro e w' ⟨rfl, rfl⟩
        unfold rc
        go_wp2
        go_ret
        rw [HR.out]; exact ⟨rfl, below4 _ _ _ _ _⟩
theorem heap3 (w : World) (A B C : Obj) : (((w.alloc A).alloc B).alloc C).heap[w.heap.size + 2]? = some C := by
  have h := heap_alloc_new ((w.alloc A).alloc B) C
  have e : ((w.alloc A).alloc B).heap.size = w.heap.size + 2 := by simp
  rwa [e] at h
theorem heap34 (w : World) (A B C D : Obj) : ((((w.alloc A).alloc B).alloc C).alloc D).heap[w.heap.size + 2]? = some C := by
  rw [Below.heap_alloc _ _ _ (by simp), heap3]
theorem heap2 (w : World) (A B : Obj) : ((w.alloc A).alloc B).heap[w.heap.size + 1]? = some B := heap_alloc2_new w A B
theorem heap23 (w : World) (A B C : Obj) : (((w.alloc A).alloc B).alloc C).heap[w.heap.size + 1]? = some B := by
  rw [Below.heap_alloc _ _ _ (by simp), heap2]
set_option maxHeartbeats 1000000 in
theorem rjoin_any (s t : Sp) (w : World) (hs : Fl.Good s) (ht : Fl.Good t) :
    Calls Try.prog 19 #[rv s, rv t] w fun en w' => en = .returned (rv (jn s t)) ∧ Below w.heap.size w w' := by
  unfold rv
  cases s with
  | none =>
    clear hs ht
    unfold rc
    go_enter Try.func19, Try.ntmps19
    go_wp2
    refine bodyPost_ret (results_cell_row rfl _ _ (w.heap.size + 2) 29 _ (0, 0) _ rfl (heap3 _ _ _ _) Try.underlying29 rfl rspan_info) rfl ?_
    exact ⟨rfl, below3 _ _ _ _⟩
  | some p =>
    cases t with
    | none =>
      clear hs ht
      unfold rc
      go_enter Try.func19, Try.ntmps19
      go_wp2
      refine bodyPost_ret (results_cell_row rfl _ _ (w.heap.size + 2) 29 _ (0, 0) _ rfl (heap3 _ _ _ _) Try.underlying29 rfl rspan_info) rfl ?_
      exact ⟨rfl, below3 _ _ _ _⟩
    | some q =>
      have HR := Lib.hid (jn_mk (hs _ _ rfl) (ht _ _ rfl))
      clear hs ht
      unfold rc
      rcases Nat.lt_or_ge (bg (some q)) (bg (some p)) with g1 | g1 <;> rcases Nat.lt_or_ge (en (some p)) (en (some q)) with g2 | g2
      all_goals
        go_enter Try.func19, Try.ntmps19
        go_wp2_with fail
        refine (rof_at _ _ _ _ (HR.out _ _ (by omega) (by omega))).mono ?_
        rintro e w' ⟨rfl, rfl⟩
        unfold rv rc
        go_wp2
        refine bodyPost_ret (results_cell_row rfl _ _ (w.heap.size + 2) 29 _ (0, 0) _ rfl (heap34 _ _ _ _ _) Try.underlying29 rfl rspan_info) rfl ?_
        exact ⟨rfl, below4 _ _ _ _ _⟩
set_option maxHeartbeats 1000000 in
theorem rmove_any (s : Sp) (k : Int) (w : World) (hs : Fl.Good s) :
    Calls Try.prog 20 #[rv s, .int .i64 k] w fun en w' => en = .returned (rv (mv s k)) ∧ Below w.heap.size w w' := by
  unfold rv
  cases s with
  | none =>
    clear hs
    have HR := Lib.hid (show mv none k = none from rfl)
    unfold rc
    go_enter Try.func20, Try.ntmps20
    go_wp2
    refine bodyPost_ret (results_cell_row rfl _ _ (w.heap.size + 1) 29 _ (0, 0) _ rfl (heap2 _ _ _) Try.underlying29 rfl rspan_info) rfl ?_
    rw [HR.out]; exact ⟨rfl, below2 _ _ _⟩
  | some p =>
    by_cases hk1 : 9007199254740992 < k
    · clear hs
      have HR := Lib.hid (mv_out (s := some p) (.inr hk1))
      unfold rc
      go_enter Try.func20, Try.ntmps20
      go_wp2
      refine bodyPost_ret (results_cell_row rfl _ _ (w.heap.size + 1) 29 _ (0, 0) _ rfl (heap2 _ _ _) Try.underlying29 rfl rspan_info) rfl ?_
      rw [HR.out]; exact ⟨rfl, below2 _ _ _⟩
    · have d1 : decide (9007199254740992 < k) = false := by simp; omega
      by_cases hk2 : k < -9007199254740992
      · clear hs hk1
        have HR := Lib.hid (mv_out (s := some p) (.inl hk2))
        unfold rc
        go_enter Try.func20, Try.ntmps20
        go_wp2
        refine bodyPost_ret (results_cell_row rfl _ _ (w.heap.size + 1) 29 _ (0, 0) _ rfl (heap2 _ _ _) Try.underlying29 rfl rspan_info) rfl ?_
        rw [HR.out]; exact ⟨rfl, below2 _ _ _⟩
      · have d2 : decide (k < -9007199254740992) = false := by simp; omega
        have hg := hs _ _ rfl
        have hw1 : wrap64 (((bg (some p) : Nat) : Int) + k) = (p.1 : Int) + k := by
          show wrap64 ((p.1 : Int) + k) = _
          unfold wrap64 never at *; omega
        have hw2 : wrap64 (((en (some p) : Nat) : Int) + k) = (p.2 : Int) + k := by
          show wrap64 ((p.2 : Int) + k) = _
          unfold wrap64 never at *; omega
        have HM := Lib.hid (mv_in (p := p) (k := k) (by omega))
        clear hs
        by_cases hn : p.2 = never
        · have hne : (((en (some p) : Nat) : Int) == 9007199254740992) = true := by
            show (((p.2 : Nat) : Int) == 9007199254740992) = true
            rw [hn]; rfl
          have HO := Lib.hid (show mk ((p.1 : Int) + k) 9007199254740992 = mv (some p) k by rw [HM.out, if_pos hn]; rfl)
          clear hn hg hk1 hk2
          unfold rc
          go_enter Try.func20, Try.ntmps20
          go_wp2_with fail
          refine (rof_at _ _ _ _ HO.out).mono ?_
          rintro e w' ⟨rfl, rfl⟩
          unfold rv rc
          go_wp2
          refine bodyPost_ret (results_cell_row rfl _ _ (w.heap.size + 1) 29 _ (0, 0) _ rfl (heap23 _ _ _ _) Try.underlying29 rfl rspan_info) rfl ?_
          exact ⟨rfl, below3 _ _ _ _⟩
        · have hne : (((en (some p) : Nat) : Int) == 9007199254740992) = false := by
            show (((p.2 : Nat) : Int) == 9007199254740992) = false
            unfold never at hn
            simp; omega
          have HO := Lib.hid (show mk ((p.1 : Int) + k) ((p.2 : Int) + k) = mv (some p) k by rw [HM.out, if_neg hn])
          clear hn hg hk1 hk2
          unfold rc
          go_enter Try.func20, Try.ntmps20
          go_wp2_with fail
          refine (rof_at _ _ _ _ HO.out).mono ?_
          rintro e w' ⟨rfl, rfl⟩
          unfold rv rc
          go_wp2
          refine bodyPost_ret (results_cell_row rfl _ _ (w.heap.size + 1) 29 _ (0, 0) _ rfl (heap23 _ _ _ _) Try.underlying29 rfl rspan_info) rfl ?_
          exact ⟨rfl, below3 _ _ _ _⟩
end Go.Proofs.Ytadendkkcdaleaa
