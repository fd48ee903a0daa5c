/-
  The contract of txn.Look.
-/
import Derived.Test.YtgnajfijecmecaaTxnIter
namespace Go.Proofs.Ytgnajfijecmecaa.Tx
open Go.RowKit Go.Shelf
attribute [local go_sem] Oper.semAt_some
theorem ok_list : ∀ {L : List Sp}, (∀ v ∈ L, v.ok) → ∃ zs : List OkSp, zs.map (·.1) = L
  | [], _ => ⟨[], rfl⟩
  | v :: L, h => by
    obtain ⟨zs, e⟩ := ok_list (L := L) fun u hu => h u (by simp [hu])
    exact ⟨⟨v, h v (by simp)⟩ :: zs, by simp [e]⟩
theorem VarsAt.low {w : World} {A : Option Addr} {L : List Sp} (h : VarsAt w A L) : ∀ ad, A = some ad → 0 < L.length → ad.block < w.heap.size := by
  intro ad e hl
  obtain ⟨ad', v, e', _, _, h4⟩ := h.at_ hl
  rw [e] at e'; cases e'
  have := cell_lt h4.c0
  rwa [add_block] at this
/-- the block b holds these cells. -/
def Blk (W : World) (b : Nat) (cs : Array Value) (t : TypeId) : Prop := W.heap[b]? = some (.cells cs t (0, 0))
theorem Blk.new (W : World) (cs : Array Value) (t : TypeId) : Blk (W.alloc (.cells cs t)) W.heap.size cs t := heap_alloc_new W _
theorem Blk.new' {W : World} {b : Nat} (h : W.heap.size = b) (cs : Array Value) (t : TypeId) : Blk (W.alloc (.cells cs t)) b cs t := by subst h; exact Blk.new W cs t
theorem Blk.lt {W : World} {b : Nat} {cs : Array Value} {t : TypeId} (h : Blk W b cs t) : b < W.heap.size := (Array.getElem?_eq_some_iff.1 h).1
theorem Blk.alloc {W : World} {b : Nat} {cs : Array Value} {t : TypeId} (h : Blk W b cs t) (o : Obj) : Blk (W.alloc o) b cs t := (Below.heap_alloc W o b h.lt).trans h
theorem Blk.cell {W : World} {b : Nat} {cs : Array Value} {t : TypeId} (h : Blk W b cs t) (i : Nat) : W.cell? ⟨b, i, none⟩ = cs[i]? := cell_of_row W b i _ t (0, 0) h
theorem Blk.free {W : World} {b : Nat} {cs : Array Value} {t : TypeId} (h : Blk W b cs t) (i : Nat) : W.frozen? ⟨b, i, none⟩ = false := by
  simp [World.frozen?, show W.heap[b]? = _ from h]
theorem Blk.other {W : World} {b : Nat} {cs : Array Value} {t : TypeId} (h : Blk W b cs t) {b' : Nat} (hne : b ≠ b') (i : Nat) (v : Value) : Blk (W.setCell ⟨b', i, none⟩ v) b cs t := (Below.heap_setCell _ _ _ b hne).trans h
theorem Blk.set {W : World} {b : Nat} {cs : Array Value} {t : TypeId} (h : Blk W b cs t) (i : Nat) (v : Value) : Blk (W.setCell ⟨b, i, none⟩ v) b (cs.setIfInBounds i v) t := by
  have := show W.heap[b]? = _ from h
  simp [Blk, World.setCell, Array.getElem?_modify, this]
theorem Blk.put {W : World} {b l : Nat} {cs : Array Value} {t : TypeId} {o : Obj} (h : Blk W b cs t) (hl : W.heap[l]? = some o) (ho : o.isCells = false) (o' : Obj) : Blk (W.putObj l o') b cs t := by
  have hne : b ≠ l := fun e => by subst e; rw [show W.heap[b]? = _ from h] at hl; cases hl; cases ho
  exact (World.putObj_heap_other hne).trans h
theorem blk_own {β : Type} (b : Nat) (t : TypeId) (f : β → Array Value) : Own (fun s W => Blk W b (f s) t) := fun s X Y row hs hg hrow =>
  (hg.block b hs.lt (fun e' => by obtain ⟨o, ho, hc⟩ := hrow b e'.symm; rw [show X.heap[b]? = _ from hs] at ho; cases ho; cases hc)).trans hs
def lookK (o : Option Sp) : Int := (o.map (·.k)).getD 0
def lookN (o : Option Sp) : Int := (o.map (·.n)).getD 0
def lookR (L : List Sp) (x : Int) : Value := .tuple #[.agg #[.int .i64 (lookK (look L x)), .int .i64 (lookN (look L x))], .bool (look L x).isSome]
theorem Blk.kept {X Y : World} {row : Option Nat} {b : Nat} {cs : Array Value} {t : TypeId} {B : Nat} (h : Blk X b cs t) (hg : X.grownBy Y row) (hr : ∀ r, row = some r → B ≤ r ∧ ∃ o : Obj, X.heap[r]? = some o ∧ o.isCells = false) : Blk Y b cs t :=
  (hg.block b h.lt (fun e' => by obtain ⟨_, o, ho, hc⟩ := hr b e'.symm; rw [show X.heap[b]? = _ from h] at ho; cases ho; cases hc)).trans h
/-- the steps that have come, as a row. -/
def came (pre : List (Nat × OkSp)) : List Sp := (pre.map (fun p => p.2.1)).reverse
theorem came_snoc (pre : List (Nat × OkSp)) (y : Nat × OkSp) : came (pre ++ [y]) = y.2.1 :: came pre := by simp [came]
theorem came_all {pre : List (Nat × OkSp)} {zs : List OkSp} (h : pre.map Prod.snd = zs.reverse) : came pre = zs.map (·.1) := by
  have : pre.map (fun p => p.2.1) = (pre.map Prod.snd).map (·.1) := by simp
  rw [came, this, h]; simp
theorem came_part {pre : List (Nat × OkSp)} {zs : List OkSp} (h : pre.map Prod.snd <+: zs.reverse) : ∃ M, zs.map (·.1) = M ++ came pre := by
  obtain ⟨q, hq⟩ := h
  have e : pre.map (fun p => p.2.1) = (pre.map Prod.snd).map (·.1) := by simp
  refine ⟨(q.map (·.1)).reverse, ?_⟩
  have h2 := congrArg List.reverse hq
  rw [List.reverse_reverse] at h2
  rw [← h2, came, e, List.reverse_append, List.map_append, List.map_reverse, List.map_reverse]
structure LookI (w : World) (x : Int) (P : List Sp) (W : World) : Prop where
  bx : Blk W w.heap.size #[.int .i64 x] 3
  rv : Blk W (w.heap.size + 1) #[.int .i64 0, .int .i64 0] 34
  rb : Blk W (w.heap.size + 1 + 1) #[.bool false] 4
  v : Blk W (w.heap.size + 1 + 1 + 1) #[.int .i64 (lookK (first P x)), .int .i64 (lookN (first P x))] 34
  b : Blk W (w.heap.size + 1 + 1 + 1 + 1) #[.bool (first P x).isSome] 4
  none_ : wr1 P x = none
  sz : w.heap.size + 1 + 1 + 1 + 1 + 1 < W.heap.size
  bel : Below w.heap.size w W
structure LookX (w : World) (x : Int) (P : List Sp) (W : World) : Prop where
  is : ∃ s, wr1 P x = some s ∧ Blk W (w.heap.size + 1) #[.int .i64 s.k, .int .i64 s.n] 34
  rb : Blk W (w.heap.size + 1 + 1) #[.bool true] 4
  bel : Below w.heap.size w W
theorem LookI.own (w : World) (x : Int) (B : Nat) (hB : w.heap.size ≤ B) : OwnFrom B (fun (pre : List (Nat × OkSp)) W => LookI w x (came pre) W) := fun _ _ _ _ hs hg hr =>
  ⟨hs.bx.kept hg hr, hs.rv.kept hg hr, hs.rb.kept hg hr, hs.v.kept hg hr, hs.b.kept hg hr, hs.none_, Nat.lt_of_lt_of_le hs.sz hg.size, hs.bel.grown hg hs.bel.size (fun k e => Nat.le_trans hB (hr k e).1)⟩
theorem LookX.own (w : World) (x : Int) (B : Nat) (hB : w.heap.size ≤ B) (c : Code) : OwnFrom B (fun (pre : List (Nat × OkSp)) W => c = .ret ∧ LookX w x (came pre) W) := fun _ _ _ _ hs hg hr =>
  ⟨hs.1, by obtain ⟨s, e, h⟩ := hs.2.is; exact ⟨s, e, h.kept hg hr⟩, hs.2.rb.kept hg hr, hs.2.bel.grown hg hs.2.bel.size (fun k e => Nat.le_trans hB (hr k e).1)⟩
theorem LookI.alloc {w : World} {x : Int} {P : List Sp} {W : World} (h : LookI w x P W) (o : Obj) : LookI w x P (W.alloc o) :=
  ⟨h.bx.alloc o, h.rv.alloc o, h.rb.alloc o, h.v.alloc o, h.b.alloc o, h.none_, by rw [size_new]; exact Nat.lt_succ_of_lt h.sz, h.bel.alloc h.bel.size o⟩
theorem first_cons_no {s : Sp} {P : List Sp} {x : Int} (h : s.x ≠ x) : first (s :: P) x = first P x := by simp [first, h]
theorem first_cons_yes {s : Sp} {P : List Sp} {x : Int} (h : s.x = x) : first (s :: P) x = some s := by simp [first, h]
theorem wr1_cons_none {s : Sp} {P : List Sp} {x : Int} (h : ¬ (s.x = x ∧ s.wr = true)) (hP : wr1 P x = none) : wr1 (s :: P) x = none := by
  have : s :: P = [s] ++ P := rfl
  rw [this, wr1_append, hP]
  simp [wr1, h]
theorem wr1_cons_yes {s : Sp} {P : List Sp} {x : Int} (h : s.x = x) (hw : s.wr = true) (hP : wr1 P x = none) : wr1 (s :: P) x = some s := by
  have : s :: P = [s] ++ P := rfl
  rw [this, wr1_append, hP]
  simp [wr1, h, hw]
theorem LookI.skip {w : World} {x : Int} {P : List Sp} {W : World} (h : LookI w x P W) {s : Sp} (hs : s.x ≠ x) : LookI w x (s :: P) W :=
  ⟨h.bx, h.rv, h.rb, by rw [first_cons_no hs]; exact h.v, by rw [first_cons_no hs]; exact h.b, wr1_cons_none (fun e => hs e.1) h.none_, h.sz, h.bel⟩
theorem LookI.read {w : World} {x : Int} {P : List Sp} {W : World} (h : LookI w x P W) {s : Sp} (hs : s.x = x) (hw : s.wr = false) :
    LookI w x (s :: P) (((W.setCell ⟨w.heap.size + 1 + 1 + 1, 0, none⟩ (.int .i64 s.k)).setCell ⟨w.heap.size + 1 + 1 + 1, 1, none⟩ (.int .i64 s.n)).setCell ⟨w.heap.size + 1 + 1 + 1 + 1, 0, none⟩ (.bool true)) :=
  ⟨((h.bx.other (by omega) _ _).other (by omega) _ _).other (by omega) _ _, ((h.rv.other (by omega) _ _).other (by omega) _ _).other (by omega) _ _, ((h.rb.other (by omega) _ _).other (by omega) _ _).other (by omega) _ _,
    by rw [first_cons_yes hs]; exact ((h.v.set 0 _).set 1 _).other (by omega) _ _, by rw [first_cons_yes hs]; exact (((h.b.other (by omega) _ _).other (by omega) _ _).set 0 _), wr1_cons_none (fun e => by rw [hw] at e; cases e.2) h.none_,
    by rw [World.size_setCell, World.size_setCell, World.size_setCell]; exact h.sz, ((h.bel.setCell (by simp; omega) _).setCell (by simp; omega) _).setCell (by simp; omega) _⟩
theorem LookI.kpRead {w : World} {x : Int} {P : List Sp} {W : World} (_ : LookI w x P W) (k n : Int) :
    KpB w.heap.size (w.heap.size + 1 + 1 + 1 + 1 + 1) W (((W.setCell ⟨w.heap.size + 1 + 1 + 1, 0, none⟩ (.int .i64 k)).setCell ⟨w.heap.size + 1 + 1 + 1, 1, none⟩ (.int .i64 n)).setCell ⟨w.heap.size + 1 + 1 + 1 + 1, 0, none⟩ (.bool true)) :=
  (((kpB_refl _ _ _).set (by omega) (by omega) _ _).set (by omega) (by omega) _ _).set (by omega) (by omega) _ _
theorem LookI.write {w : World} {x : Int} {P : List Sp} {W : World} (h : LookI w x P W) {s : Sp} (hs : s.x = x) (hw : s.wr = true) :
    LookX w x (s :: P) (((W.setCell ⟨w.heap.size + 1, 0, none⟩ (.int .i64 s.k)).setCell ⟨w.heap.size + 1, 1, none⟩ (.int .i64 s.n)).setCell ⟨w.heap.size + 1 + 1, 0, none⟩ (.bool true)) :=
  ⟨⟨s, wr1_cons_yes hs hw h.none_, ((h.rv.set 0 _).set 1 _).other (by omega) _ _⟩, ((h.rb.other (by omega) _ _).other (by omega) _ _).set 0 _, ((h.bel.setCell (by simp) _).setCell (by simp) _).setCell (by simp; omega) _⟩
theorem keeps3 (B : Nat) (W : World) (a b c : Addr) (u v z : Value) : KeepsFrom B W (((W.setCell a u).setCell b v).setCell c z) := (((KeepsOthers.setCell _ _ _).trans (KeepsOthers.setCell _ _ _)).trans (KeepsOthers.setCell _ _ _)).from B
/-- the world in which Look's loop begins. -/
def lookW (w : World) (x : Int) (A : Option Addr) (n c : Nat) : World := ((((((w.alloc (.cells #[.int .i64 x] 3)).alloc (.cells #[.int .i64 0, .int .i64 0] 34)).alloc (.cells #[.bool false] 4)).alloc (.cells #[.int .i64 0, .int .i64 0] 34)).alloc (.cells #[.bool false] 4)).alloc (.cells #[.slice A n c] 29))
theorem lookW_size (w : World) (x : Int) (A : Option Addr) (n c : Nat) : (lookW w x A n c).heap.size = w.heap.size + 1 + 1 + 1 + 1 + 1 + 1 := by simp [lookW]
theorem lookW_below (w : World) (x : Int) (A : Option Addr) (n c : Nat) : Below w.heap.size w (lookW w x A n c) := by
  unfold lookW
  exact (((((((Below.refl _ w).alloc (Nat.le_refl _) _).alloc (by simp) _).alloc (by simp; omega) _).alloc (by simp; omega) _).alloc (by simp; omega) _).alloc (by simp; omega) _)
theorem lookW_start (w : World) (x : Int) (A : Option Addr) (n c : Nat) : LookI w x [] (lookW w x A n c) :=
  ⟨(((((Blk.new w _ _).alloc _).alloc _).alloc _).alloc _).alloc _, ((((Blk.new' (by simp) _ _).alloc _).alloc _).alloc _).alloc _, (((Blk.new' (by simp) _ _).alloc _).alloc _).alloc _, ((Blk.new' (by simp) _ _).alloc _).alloc _, (Blk.new' (by simp) _ _).alloc _, rfl, by rw [lookW_size]; exact Nat.lt_succ_self _, lookW_below w x A n c⟩
theorem lookW_box (w : World) (x : Int) (A : Option Addr) (n c : Nat) : Blk (lookW w x A n c) (w.heap.size + 1 + 1 + 1 + 1 + 1) #[.slice A n c] 29 := Blk.new' (by simp) _ _
theorem below_drewB (B : Nat) (W : World) : Below B W W.drew := ⟨rfl, rfl, rfl, Nat.le_refl _, fun _ _ => rfl⟩
theorem Blk.drew {W : World} {b : Nat} {cs : Array Value} {t : TypeId} (h : Blk W b cs t) : Blk W.drew b cs t := h
theorem val_size : (Try.prog.info? 34).map (·.size) = some 2 := by kernel_rfl
theorem results_two {fn : Func} {p q : Tmp} {ty : TypeId} (h : fn.results = #[.cell p ty, .cell q 4]) (tmps : Array Value) (W : World) (b b' : Nat) (t t' : TypeId) (k n : Int) (z : Bool) (fs : _) (hp : tmps.getD p undef = .pointer (some ⟨b, 0, none⟩)) (hq : tmps.getD q undef = .pointer (some ⟨b', 0, none⟩)) (h1 : Blk W b #[.int .i64 k, .int .i64 n] t) (h2 : Blk W b' #[.bool z] t')
    (hu : Try.prog.underlying ty = some (.struct fs)) (hi : (Try.prog.info? ty).map (·.size) = some 2) : (results fn tmps).run Try.prog W = .ok (.tuple #[.agg #[.int .i64 k, .int .i64 n], .bool z]) W := by
  have hc := h2.cell 0
  simp only [List.getElem?_toArray, List.getElem?_cons_zero] at hc
  have hl : (loadVar 4 ⟨b', 0, none⟩).run Try.prog W = .ok (.bool z) W := by
    simp [loadVar, go_sem, hc]
  rw [Array.getD_eq_getD_getElem?] at hp hq
  simp [results, h, hp, hq, asAddr, Result.andThen, run_loadVar_row W b t ty _ (0, 0) _ h1 hu rfl hi, hl]
set_option maxRecDepth 100000 in
set_option maxHeartbeats 4000000 in
theorem look_any (A : Option Addr) (c : Nat) (L : List Sp) (x : Int) (w : World) (h : VarsAt w A L) (hl : L.length ≤ 300) :
    Calls Try.prog 14 #[.slice A L.length c, .int .i64 x] w fun e w' => e = .returned (lookR L x) ∧ Below w.heap.size w w' := by
  obtain ⟨zs, rfl⟩ := ok_list h.ok
  have hA0 := h.low
  rw [List.length_map] at hl hA0 ⊢
  have HZ := Lib.hid h
  clear h
  have HW0 := lookW_start w x A zs.length c
  have HS0 := lookW_size w x A zs.length c
  have HX0 := lookW_box w x A zs.length c
  refine (callsIn_wide (n := 5)).1 ?_
  refine callsIn_of_wp_marks Try.func14 rfl trivial ?_ rfl
  simp only [Try.ntmps14, List.size_toArray, List.length_cons, List.length_nil, Nat.reduceAdd, Nat.reduceSub, Array.replicate_succ, Array.replicate_zero, List.push_toArray, List.append_toArray, List.nil_append, List.cons_append]
  gi_wp2_with (refine ⟨trivial, ?_⟩; gi_at_call 21; refine (callsIn_wide.2 (backward_any _ _ _ _)).mono ?_; rintro e w' ⟨rfl, rfl⟩)
  unfold lookW at HW0 HS0 HX0
  generalize ((((((w.alloc (.cells #[.int .i64 x] 3)).alloc (.cells #[.int .i64 0, .int .i64 0] 34)).alloc (.cells #[.bool false] 4)).alloc (.cells #[.int .i64 0, .int .i64 0] 34)).alloc (.cells #[.bool false] 4)).alloc (.cells #[.slice A zs.length c] 29)) = W0 at HW0 HS0 HX0 ⊢
  refine wpIn_rangeFunc_ownH rfl (by decide) (gf := 25) (lb := #[.pointer (some ⟨w.heap.size + 1 + 1 + 1 + 1 + 1, 0, none⟩)]) rfl trivial (enters_of Try.func25 (by kernel_rfl) rfl)
    (back_stops 4 (by decide) (w.heap.size + 1 + 1 + 1 + 1 + 1) w.heap.size c A zs (by omega) W0 (HX0.cell 0) (HZ.out.below HW0.bel (Nat.le_refl _)) hA0) kpB_t (kpB_b (by omega) (by omega)) (Below.refl _ _) (fun _ => rfl)
    (fun pre W => LookI w x (came pre) W) (fun c pre W => c = .ret ∧ LookX w x (came pre) W)
    (LookI.own w x _ (by omega)) (fun c => LookX.own w x _ (by omega) c) HW0
    (fun y a' W => ∃ Bx, w.heap.size + 1 + 1 + 1 + 1 + 1 < Bx ∧ Blk W Bx (stepA y.2.1) 39 ∧ a' = { tmps := #[.slice A zs.length c, .int .i64 x, undef, .pointer (some ⟨w.heap.size, 0, none⟩), .pointer (some ⟨w.heap.size + 1, 0, none⟩), .pointer (some ⟨w.heap.size + 1 + 1, 0, none⟩), .pointer (some ⟨w.heap.size + 1 + 1 + 1, 0, none⟩), .pointer (some ⟨w.heap.size + 1 + 1 + 1 + 1, 0, none⟩), undef, .pointer (some ⟨Bx, 0, none⟩), .slice A zs.length c, .func (.func 25) #[] #[.pointer (some ⟨w.heap.size + 1 + 1 + 1 + 1 + 1, 0, none⟩)], .int .i64 ((y.1 : Nat) : Int), .agg (stepA y.2.1), undef, undef, undef, undef, undef, undef, undef, undef, undef, undef, undef, undef], defers := [] })
    (fun y a' => fun _ X Y row hs hg hr => by obtain ⟨Bx, h1, h2, h3⟩ := hs; exact ⟨Bx, h1, h2.kept hg hr, h3⟩) ?assign ?body ?done ?stop
  case assign =>
    rintro l pre y W K hi hK
    simp only [stepA] at hK ⊢
    gi_wp2
    exact hK _ _ ((KeepsOthers.alloc _ _).from _) ((kpB_refl _ _ _).alloc hi.bel.size hi.sz _) (hi.alloc _) ⟨W.heap.size, hi.sz, Blk.new _ _ _, rfl⟩
  case body =>
    rintro l pre y a' W hl' ⟨r, hr⟩ hi ⟨Bx, hBx, hX, rfl⟩ hlt
    obtain ⟨j, s, hok⟩ := y
    simp only [stepA] at hX ⊢
    have x0 := hX.cell 0
    have x1 := hX.cell 1
    have x2 := hX.cell 2
    have x3 := hX.cell 3
    simp only [List.getElem?_toArray, List.getElem?_cons_succ, List.getElem?_cons_zero] at x0 x1 x2 x3
    have b0 := hi.bx.cell 0
    simp only [List.getElem?_toArray, List.getElem?_cons_zero] at b0
    have v0 := hi.v.cell 0
    have v1 := hi.v.cell 1
    have k0 := hi.b.cell 0
    have r0 := hi.rv.cell 0
    have r1 := hi.rv.cell 1
    have r2 := hi.rb.cell 0
    simp only [List.getElem?_toArray, List.getElem?_cons_succ, List.getElem?_cons_zero] at v0 v1 k0 r0 r1 r2
    have f1 := hi.rv.free
    have f2 := hi.rb.free
    have f3 := hi.v.free
    have f4 := hi.b.free
    by_cases hx : s.x = x
    · have hne : (s.x != x) = false := by simpa using hx
      cases hw : s.wr with
      | true =>
        rw [hw] at x3
        have HR := Lib.hid (hi.write hx hw)
        clear hx
        gi_wp2
        exact ⟨keeps3 _ _ _ _ _ _ _ _, rfl, by rw [came_snoc]; exact HR.out⟩
      | false =>
        rw [hw] at x3
        have HR := Lib.hid (hi.read hx hw)
        have HK := Lib.hid (hi.kpRead s.k s.n)
        clear hx
        gi_wp2
        exact ⟨keeps3 _ _ _ _ _ _ _ _, HK.out, by show LookI _ _ (came _) _; rw [came_snoc]; exact HR.out⟩
    · have hne : (s.x != x) = true := by simpa using hx
      have HR := Lib.hid (hi.skip hx)
      clear hx
      gi_wp2
      exact ⟨KeepsFrom.refl _ _, kpB_refl _ _ _, by show LookI _ _ (came _) _; rw [came_snoc]; exact HR.out⟩
  case done =>
    rintro D ys W hD hys hi hK
    have v0 := hi.v.cell 0
    have v1 := hi.v.cell 1
    have k0 := hi.b.cell 0
    have r0 := hi.rv.cell 0
    have r1 := hi.rv.cell 1
    have r2 := hi.rb.cell 0
    simp only [List.getElem?_toArray, List.getElem?_cons_succ, List.getElem?_cons_zero] at v0 v1 k0 r0 r1 r2
    have f1 := hi.rv.free
    have f2 := hi.rb.free
    gi_wp2
    refine wpIn_wide.2 ?_
    go_region
    gi_wp2
    have hE : came ys = zs.map (·.1) := came_all hys
    have hn := hi.none_
    have h1 := ((hi.rv.set 0 (.int .i64 (lookK (first (came ys) x)))).set 1 (.int .i64 (lookN (first (came ys) x)))).other (b' := w.heap.size + 1 + 1) (by omega) 0 (.bool (first (came ys) x).isSome)
    have h2 := (((hi.rb.other (b' := w.heap.size + 1) (by omega) 0 (.int .i64 (lookK (first (came ys) x)))).other (b' := w.heap.size + 1) (by omega) 1 (.int .i64 (lookN (first (came ys) x)))).set 0 (.bool (first (came ys) x).isSome))
    have h3 := ((hi.bel.setCell (p := ⟨w.heap.size + 1, 0, none⟩) (by simp) (.int .i64 (lookK (first (came ys) x)))).setCell (p := ⟨w.heap.size + 1, 1, none⟩) (by simp) (.int .i64 (lookN (first (came ys) x)))).setCell (p := ⟨w.heap.size + 1 + 1, 0, none⟩) (by simp; omega) (.bool (first (came ys) x).isSome)
    have hK' := (keeps3 W0.heap.size W ⟨w.heap.size + 1, 0, none⟩ ⟨w.heap.size + 1, 1, none⟩ ⟨w.heap.size + 1 + 1, 0, none⟩ (.int .i64 (lookK (first (came ys) x))) (.int .i64 (lookN (first (came ys) x))) (.bool (first (came ys) x).isSome)).same D _ hD hK rfl
    refine ⟨by simp, .inl ⟨_, _, rfl, run_takeDeferred (w := World.drew _) hK', ?_⟩⟩
    refine ⟨_, results_two rfl _ _ (w.heap.size + 1) (w.heap.size + 1 + 1) 34 4 _ _ _ _ rfl rfl (h1.put hK' rfl _) (h2.put hK' rfl _) Try.underlying34 val_size, ?_, ?_⟩
    · unfold lookR look
      rw [← hE, hn]
      rfl
    · exact (h3.trans (below_drewB _ _)).trans (belowK_b (n₀ := w.heap.size) (w := W0) (by omega) (World.drew _) D _ _ hD hK' rfl rfl)
  case stop =>
    rintro D c' pre W hD hpre ⟨rfl, hx⟩ hK
    gi_wp2
    obtain ⟨M, hM⟩ := came_part hpre
    obtain ⟨s, hs, h1⟩ := hx.is
    refine ⟨by simp, .inl ⟨_, _, rfl, run_takeDeferred hK, ?_⟩⟩
    refine ⟨_, results_two rfl _ _ (w.heap.size + 1) (w.heap.size + 1 + 1) 34 4 _ _ _ _ rfl rfl (h1.put hK rfl _) (hx.rb.put hK rfl _) Try.underlying34 val_size, ?_, ?_⟩
    · unfold lookR look
      rw [hM, wr1_append, hs]
      rfl
    · exact hx.bel.trans (belowK_b (n₀ := w.heap.size) (w := W0) (by omega) _ D _ _ hD hK rfl rfl)
end Go.Proofs.Ytgnajfijecmecaa.Tx
