/-
  The contracts of store.Put and store.Mark.
-/
import Derived.Test.YtgbfdfkodocdiaaStoreCalls
namespace Go.Proofs.Ytgbfdfkodocdiaa
open Go.RowKit St
/-- a store and an error. -/
def StorePost (L : List Vr) (er : Int) (w : World) (e : Ending) (w' : World) : Prop := ∃ A c, e = .returned (.tuple #[.slice A L.length c, .int .i64 er]) ∧ VarsAt w' A L ∧ Below w.heap.size w w'
theorem storePost_own {w w' : World} {L : List Vr} {er : Int} {g cap len base : Nat} {e : TypeId} (hlen : len = L.length) (ho : OwnVars w' base e (.slice (some ⟨g, 0, none⟩) len cap) L) (hb : Below w.heap.size w w') :
    StorePost L er w (.returned (.tuple #[.slice (some ⟨g, 0, none⟩) len cap, .int .i64 er])) w' := by
  subst hlen
  obtain ⟨A', c', e1, h1, h2, h3⟩ := ho.slice
  injection e1 with e1 _ e2
  subst e1; subst e2
  exact ⟨_, _, rfl, h3, hb⟩
theorem putE_no {L : List Vr} {x k n wr : Int} (h : ¬ has L x) : putE L x k n wr = 3 := by unfold putE; rw [if_neg h]
theorem putE_arg {L : List Vr} {x k n wr : Int} (h : has L x) (h2 : ¬ (right k n = true ∧ (wr = -1 ∨ slot wr))) : putE L x k n wr = 2 := by unfold putE; rw [if_pos h, if_neg h2]
theorem putE_ok {L : List Vr} {x k n wr : Int} (h : has L x) (h2 : right k n = true ∧ (wr = -1 ∨ slot wr)) : putE L x k n wr = 0 := by unfold putE; rw [if_pos h, if_pos h2]
theorem putL_no {L : List Vr} {x k n ver wr : Int} (h : ¬ has L x) : putL L x k n ver wr = L := by unfold putL; rw [putE_no h, if_neg (by decide)]
theorem putL_arg {L : List Vr} {x k n ver wr : Int} (h : has L x) (h2 : ¬ (right k n = true ∧ (wr = -1 ∨ slot wr))) : putL L x k n ver wr = L := by unfold putL; rw [putE_arg h h2, if_neg (by decide)]
theorem putL_ok {L : List Vr} {x k n ver wr : Int} (h : has L x) (h2 : right k n = true ∧ (wr = -1 ∨ slot wr)) : putL L x k n ver wr = L.set x.toNat ⟨k, n, ver, wr, 0⟩ := by unfold putL; rw [putE_ok h h2, if_pos rfl]
/-- the whole of a variable in a row of the call's own. -/
def put5 (w : World) (b o : Nat) (k n ver wr : Int) : World := ((((w.setCell ⟨b, o, none⟩ (.int .i64 k)).setCell ⟨b, o + 1, none⟩ (.int .i64 n)).setCell ⟨b, o + 2, none⟩ (.int .i64 ver)).setCell ⟨b, o + 3, none⟩ (.int .i64 wr)).setCell ⟨b, o + 4, none⟩ (.int .u64 0)
theorem below_put5 {w : World} {B b o : Nat} {a : World} (h : Below B a w) (hb : B ≤ b) (k n ver wr : Int) : Below B a (put5 w b o k n ver wr) := ((((h.setCell hb _).setCell hb _).setCell hb _).setCell hb _).setCell hb _
theorem OwnVars.put5 {w : World} {base g cap : Nat} {e : TypeId} {L : List Vr} (h : OwnVars w base e (.slice (some ⟨g, 0, none⟩) L.length cap) L) {j : Nat} (hj : j < L.length) {k n ver wr : Int} (hk : i64p k) (hn : i64p n) (hv : i64p ver) (hw : i64p wr) :
    OwnVars (put5 w g (j * 5) k n ver wr) base e (.slice (some ⟨g, 0, none⟩) L.length cap) (L.set j ⟨k, n, ver, wr, 0⟩) := by
  have h0 := List.getElem?_eq_getElem hj
  have hok := h.ok _ (List.getElem_mem hj)
  generalize L[j] = v at h0 hok
  have s1 := h.put h0 (v' := ⟨k, v.n, v.ver, v.wr, v.m⟩) 0 (by decide) (.int .i64 k) rfl ⟨hk, hok.2⟩
  have s2 := s1.put (j := j) (List.getElem?_set_self hj) (v' := ⟨k, n, v.ver, v.wr, v.m⟩) 1 (by decide) (.int .i64 n) rfl ⟨hk, hn, hok.2.2⟩
  rw [List.set_set] at s2
  have s3 := s2.put (j := j) (List.getElem?_set_self hj) (v' := ⟨k, n, ver, v.wr, v.m⟩) 2 (by decide) (.int .i64 ver) rfl ⟨hk, hn, hv, hok.2.2.2⟩
  rw [List.set_set] at s3
  have s4 := s3.put (j := j) (List.getElem?_set_self hj) (v' := ⟨k, n, ver, wr, v.m⟩) 3 (by decide) (.int .i64 wr) rfl ⟨hk, hn, hv, hw, hok.2.2.2.2⟩
  rw [List.set_set] at s4
  have s5 := s4.put (j := j) (List.getElem?_set_self hj) (v' := ⟨k, n, ver, wr, 0⟩) 4 (by decide) (.int .u64 0) rfl ⟨hk, hn, hv, hw, Nat.zero_lt_succ _⟩
  rw [List.set_set, List.length_set] at s5
  exact s5
/-- a value in its box. -/
structure BoxAt (w : World) (b : Nat) (k n : Int) : Prop where
  c0 : w.cell? ⟨b, 0, none⟩ = some (.int .i64 k)
  c1 : w.cell? ⟨b, 1, none⟩ = some (.int .i64 n)
theorem boxAt_new (w : World) (k n : Int) (t : TypeId) : BoxAt (w.alloc (.cells #[.int .i64 k, .int .i64 n] t)) w.heap.size k n :=
  ⟨cell_of_row _ _ 0 _ t (0, 0) (heap_alloc_new w _), cell_of_row _ _ 1 _ t (0, 0) (heap_alloc_new w _)⟩
theorem BoxAt.below {w w' : World} {b : Nat} {k n : Int} (h : BoxAt w b k n) (hb : Below w.heap.size w w') : BoxAt w' b k n :=
  ⟨(hb.cell (cell_lt h.c0)).trans h.c0, (hb.cell (cell_lt h.c1)).trans h.c1⟩
set_option maxHeartbeats 1000000 in
theorem put_no (A : Option Addr) (c : Nat) (L : List Vr) (x k n ver wr : Int) (w : World) (h : VarsAt w A L) (hx : ¬ has L x) :
    Calls Try.prog 13 #[.slice A L.length c, .int .i64 x, .agg #[.int .i64 k, .int .i64 n], .int .i64 ver, .int .i64 wr] w (StorePost L 3 w) := by
  have H := Lib.hid h
  have HX := Lib.hid hx
  clear h hx
  go_enter Try.func13, Try.ntmps13
  go_wp2_with (go_at_call 26; refine (has_no _ _ _ HX.out).mono ?_; rintro e w' ⟨rfl, rfl⟩)
  go_ret2
  exact ⟨_, _, rfl, H.out.alloc _, below_new _ _⟩
set_option maxHeartbeats 1000000 in
theorem put_wrong (A : Option Addr) (c : Nat) (L : List Vr) (x k n ver wr : Int) (w : World) (h : VarsAt w A L) (hx : has L x) (hr : right k n = false) :
    Calls Try.prog 13 #[.slice A L.length c, .int .i64 x, .agg #[.int .i64 k, .int .i64 n], .int .i64 ver, .int .i64 wr] w (StorePost L 2 w) := by
  have H := Lib.hid h
  have HX := Lib.hid hx
  have HR := Lib.hid hr
  clear h hx hr
  go_enter Try.func13, Try.ntmps13
  go_wp2_with (go_at_call 26; refine (has_yes _ _ _ HX.out).mono ?_; rintro e w' ⟨rfl, rfl⟩)
  refine (right_val _ _ _ _ HR.out).mono ?_
  rintro e w1 ⟨rfl, hb1⟩
  have HB1 := Lib.hid hb1
  clear hb1
  go_wp2
  go_ret2
  exact ⟨_, _, rfl, (H.out.alloc _).below HB1.out (Nat.le_refl _), (below_new _ _).trans (HB1.out.mono (by simp))⟩
set_option maxHeartbeats 1000000 in
theorem put_slot (A : Option Addr) (c : Nat) (L : List Vr) (x k n ver wr : Int) (w : World) (h : VarsAt w A L) (hx : has L x) (hr : right k n = true) (h1 : wr ≠ -1) (hs : ¬ slot wr) :
    Calls Try.prog 13 #[.slice A L.length c, .int .i64 x, .agg #[.int .i64 k, .int .i64 n], .int .i64 ver, .int .i64 wr] w (StorePost L 2 w) := by
  have H := Lib.hid h
  have HX := Lib.hid hx
  have HR := Lib.hid hr
  have HS := Lib.hid hs
  have hd : ¬ wr = -1 := h1
  clear h hx hr hs h1
  go_enter Try.func13, Try.ntmps13
  go_wp2_with (go_at_call 26; refine (has_yes _ _ _ HX.out).mono ?_; rintro e w' ⟨rfl, rfl⟩)
  refine (right_val _ _ _ _ HR.out).mono ?_
  rintro e w1 ⟨rfl, hb1⟩
  have HB1 := Lib.hid hb1
  clear hb1
  go_wp2_with (go_at_call 28; refine (slot_no _ HS.out).mono ?_; rintro e w' ⟨rfl, rfl⟩)
  go_ret2
  exact ⟨_, _, rfl, (H.out.alloc _).below HB1.out (Nat.le_refl _), (below_new _ _).trans (HB1.out.mono (by simp))⟩
set_option maxHeartbeats 1000000 in
theorem put_yes (A : Option Addr) (c j : Nat) (L : List Vr) (k n ver wr : Int) (w : World) (h : VarsAt w A L) (hl : L.length ≤ 100) (hj : j < L.length) (hr : right k n = true) (hs : slot wr) (hk : i64p k) (hn : i64p n) (hv : i64p ver) (hw : i64p wr) :
    Calls Try.prog 13 #[.slice A L.length c, .int .i64 (j : Nat), .agg #[.int .i64 k, .int .i64 n], .int .i64 ver, .int .i64 wr] w (StorePost (L.set j ⟨k, n, ver, wr, 0⟩) 0 w) := by
  have H := Lib.hid h
  have HX := Lib.hid (show has L (j : Nat) from ⟨by omega, by omega⟩)
  have HR := Lib.hid hr
  have HS := Lib.hid hs
  have hd : ¬ wr = -1 := by have := hs.1; omega
  have HI := Lib.hid (show i64p k ∧ i64p n ∧ i64p ver ∧ i64p wr from ⟨hk, hn, hv, hw⟩)
  have HBX := Lib.hid (boxAt_new w k n 31)
  clear h hr hs hk hn hv hw
  go_enter Try.func13, Try.ntmps13
  go_wp2_with (go_at_call 26; refine (has_yes _ _ _ HX.out).mono ?_; rintro e w' ⟨rfl, rfl⟩)
  refine (right_val _ _ _ _ HR.out).mono ?_
  rintro e w1 ⟨rfl, hb1⟩
  have HB1 := Lib.hid hb1
  clear hb1
  go_wp2_with (go_at_call 28; refine (slot_yes _ HS.out).mono ?_; rintro e w' ⟨rfl, rfl⟩)
  refine (clone_any _ _ _ _ ((H.out.alloc _).below HB1.out (Nat.le_refl _)) hl).mono ?_
  rintro e w2 ⟨v, rfl, ho, hb2⟩
  obtain ⟨g, cap, rfl, hg, hlt⟩ := ho.open_ (by omega)
  have HO := Lib.hid ho
  have HB2 := Lib.hid (HB1.out.trans (hb2.mono HB1.out.size))
  obtain ⟨b0, b1⟩ := HBX.out.below HB2.out
  have e0 := List.getElem?_eq_getElem hj
  have c0 := ho.get0 e0
  have c1 := ho.get e0 1 (by decide)
  have c2 := ho.get e0 2 (by decide)
  have c3 := ho.get e0 3 (by decide)
  have c4 := ho.get e0 4 (by decide)
  simp only [cellsOf, List.getElem?_cons_succ, List.getElem?_cons_zero] at c1 c2 c3 c4
  have f := ho.free
  clear ho hb2 e0
  have HP := Lib.hid (HO.out.put5 hj HI.out.1 HI.out.2.1 HI.out.2.2.1 HI.out.2.2.2)
  have HPB := Lib.hid (below_put5 ((below_new w (.cells #[.int .i64 k, .int .i64 n] 31)).trans (HB2.out.mono (by simp))) (show w.heap.size ≤ g by have := HB1.out.size; rw [size_new] at this; omega) k n ver wr (o := j * 5))
  unfold put5 at HP HPB
  go_wp2
  go_ret2
  exact storePost_own (List.length_set ..).symm HP.out HPB.out
set_option maxHeartbeats 1000000 in
theorem put_nobody (A : Option Addr) (c j : Nat) (L : List Vr) (k n ver : Int) (w : World) (h : VarsAt w A L) (hl : L.length ≤ 100) (hj : j < L.length) (hr : right k n = true) (hk : i64p k) (hn : i64p n) (hv : i64p ver) :
    Calls Try.prog 13 #[.slice A L.length c, .int .i64 (j : Nat), .agg #[.int .i64 k, .int .i64 n], .int .i64 ver, .int .i64 (-1)] w (StorePost (L.set j ⟨k, n, ver, -1, 0⟩) 0 w) := by
  have H := Lib.hid h
  have HX := Lib.hid (show has L (j : Nat) from ⟨by omega, by omega⟩)
  have HR := Lib.hid hr
  have HI := Lib.hid (show i64p k ∧ i64p n ∧ i64p ver ∧ i64p (-1) from ⟨hk, hn, hv, by unfold i64p; omega⟩)
  have HBX := Lib.hid (boxAt_new w k n 31)
  clear h hr hk hn hv
  go_enter Try.func13, Try.ntmps13
  go_wp2_with (go_at_call 26; refine (has_yes _ _ _ HX.out).mono ?_; rintro e w' ⟨rfl, rfl⟩)
  refine (right_val _ _ _ _ HR.out).mono ?_
  rintro e w1 ⟨rfl, hb1⟩
  have HB1 := Lib.hid hb1
  clear hb1
  go_wp2_with fail
  refine (clone_any _ _ _ _ ((H.out.alloc _).below HB1.out (Nat.le_refl _)) hl).mono ?_
  rintro e w2 ⟨v, rfl, ho, hb2⟩
  obtain ⟨g, cap, rfl, hg, hlt⟩ := ho.open_ (by omega)
  have HO := Lib.hid ho
  have HB2 := Lib.hid (HB1.out.trans (hb2.mono HB1.out.size))
  obtain ⟨b0, b1⟩ := HBX.out.below HB2.out
  have e0 := List.getElem?_eq_getElem hj
  have c0 := ho.get0 e0
  have c1 := ho.get e0 1 (by decide)
  have c2 := ho.get e0 2 (by decide)
  have c3 := ho.get e0 3 (by decide)
  have c4 := ho.get e0 4 (by decide)
  simp only [cellsOf, List.getElem?_cons_succ, List.getElem?_cons_zero] at c1 c2 c3 c4
  have f := ho.free
  clear ho hb2 e0
  have HP := Lib.hid (HO.out.put5 hj HI.out.1 HI.out.2.1 HI.out.2.2.1 HI.out.2.2.2)
  have HPB := Lib.hid (below_put5 ((below_new w (.cells #[.int .i64 k, .int .i64 n] 31)).trans (HB2.out.mono (by simp))) (show w.heap.size ≤ g by have := HB1.out.size; rw [size_new] at this; omega) k n ver (-1) (o := j * 5))
  unfold put5 at HP HPB
  go_wp2
  go_ret2
  exact storePost_own (List.length_set ..).symm HP.out HPB.out
theorem put_any (A : Option Addr) (c : Nat) (L : List Vr) (x k n ver wr : Int) (w : World) (h : VarsAt w A L) (hl : L.length ≤ 100) (hk : i64p k) (hn : i64p n) (hv : i64p ver) (hw : i64p wr) :
    Calls Try.prog 13 #[.slice A L.length c, .int .i64 x, .agg #[.int .i64 k, .int .i64 n], .int .i64 ver, .int .i64 wr] w (StorePost (putL L x k n ver wr) (putE L x k n wr) w) := by
  by_cases hx : has L x
  · cases hr : right k n
    · rw [putL_arg hx (by simp [hr]), putE_arg hx (by simp [hr])]
      exact put_wrong A c L x k n ver wr w h hx hr
    · by_cases h1 : wr = -1
      · subst h1
        rw [putL_ok hx ⟨hr, .inl rfl⟩, putE_ok hx ⟨hr, .inl rfl⟩]
        obtain ⟨j, rfl⟩ := Int.eq_ofNat_of_zero_le hx.1
        exact put_nobody A c j L k n ver w h hl (by have := hx.2; omega) hr hk hn hv
      · by_cases hs : slot wr
        · rw [putL_ok hx ⟨hr, .inr hs⟩, putE_ok hx ⟨hr, .inr hs⟩]
          obtain ⟨j, rfl⟩ := Int.eq_ofNat_of_zero_le hx.1
          exact put_yes A c j L k n ver wr w h hl (by have := hx.2; omega) hr hs hk hn hv hw
        · rw [putL_arg hx (by simp [hr, h1, hs]), putE_arg hx (by simp [hr, h1, hs])]
          exact put_slot A c L x k n ver wr w h hx hr h1 hs
  · rw [putL_no hx, putE_no hx]
    exact put_no A c L x k n ver wr w h hx
theorem markE_no {L : List Vr} {x s : Int} (h : ¬ has L x) : markE L x s = 3 := by unfold markE; rw [if_neg h]
theorem markE_arg {L : List Vr} {x s : Int} (h : has L x) (h2 : ¬ slot s) : markE L x s = 2 := by unfold markE; rw [if_pos h, if_neg h2]
theorem markE_ok {L : List Vr} {x s : Int} (h : has L x) (h2 : slot s) : markE L x s = 0 := by unfold markE; rw [if_pos h, if_pos h2]
theorem markL_no {L : List Vr} {x s : Int} (h : ¬ has L x) : markL L x s = L := by unfold markL; rw [markE_no h, if_neg (by decide)]
theorem markL_arg {L : List Vr} {x s : Int} (h : has L x) (h2 : ¬ slot s) : markL L x s = L := by unfold markL; rw [markE_arg h h2, if_neg (by decide)]
theorem markL_ok {L : List Vr} {x s : Int} (h : has L x) (h2 : slot s) : markL L x s = L.set x.toNat (mk s (at_ L x)) := by unfold markL; rw [markE_ok h h2, if_pos rfl]
set_option maxHeartbeats 1000000 in
theorem mark_no (A : Option Addr) (c : Nat) (L : List Vr) (x s : Int) (w : World) (h : VarsAt w A L) (hx : ¬ has L x) :
    Calls Try.prog 15 #[.slice A L.length c, .int .i64 x, .int .i64 s] w (StorePost L 3 w) := by
  have H := Lib.hid h
  have HX := Lib.hid hx
  clear h hx
  go_enter Try.func15, Try.ntmps15
  go_wp2_with (go_at_call 26; refine (has_no _ _ _ HX.out).mono ?_; rintro e w' ⟨rfl, rfl⟩)
  go_ret2
  exact ⟨_, _, rfl, H.out, Below.refl _ _⟩
set_option maxHeartbeats 1000000 in
theorem mark_slot (A : Option Addr) (c : Nat) (L : List Vr) (x s : Int) (w : World) (h : VarsAt w A L) (hx : has L x) (hs : ¬ slot s) :
    Calls Try.prog 15 #[.slice A L.length c, .int .i64 x, .int .i64 s] w (StorePost L 2 w) := by
  have H := Lib.hid h
  have HX := Lib.hid hx
  have HS := Lib.hid hs
  clear h hx hs
  go_enter Try.func15, Try.ntmps15
  go_wp2_with (first
    | (go_at_call 26; refine (has_yes _ _ _ HX.out).mono ?_; rintro e w' ⟨rfl, rfl⟩)
    | (go_at_call 28; refine (slot_no _ HS.out).mono ?_; rintro e w' ⟨rfl, rfl⟩))
  go_ret2
  exact ⟨_, _, rfl, H.out, Below.refl _ _⟩
set_option maxHeartbeats 1000000 in
theorem mark_yes (A : Option Addr) (c j : Nat) (L : List Vr) (s : Int) (v : Vr) (w : World) (h : VarsAt w A L) (hl : L.length ≤ 100) (hv : L[j]? = some v) (hs : slot s) :
    Calls Try.prog 15 #[.slice A L.length c, .int .i64 (j : Nat), .int .i64 s] w (StorePost (L.set j (mk s v)) 0 w) := by
  have H := Lib.hid h
  have hj : j < L.length := (List.getElem?_eq_some_iff.1 hv).1
  have hok := h.ok v (List.mem_of_getElem? hv)
  have HX := Lib.hid (show has L (j : Nat) from ⟨by omega, by omega⟩)
  have HS := Lib.hid hs
  have HV := Lib.hid hv
  have HK := Lib.hid hok
  have hm := hok.2.2.2.2
  have h0 := hs.1
  have h1 := hs.2
  clear h hs hv hok
  go_enter Try.func15, Try.ntmps15
  go_wp2_with (first
    | (go_at_call 26; refine (has_yes _ _ _ HX.out).mono ?_; rintro e w' ⟨rfl, rfl⟩)
    | (go_at_call 28; refine (slot_yes _ HS.out).mono ?_; rintro e w' ⟨rfl, rfl⟩))
  refine (clone_any _ _ _ _ H.out hl).mono ?_
  rintro e w2 ⟨v', rfl, ho, hb2⟩
  obtain ⟨g, cap, rfl, hg, hlt⟩ := ho.open_ (by omega)
  have HO := Lib.hid ho
  have HB2 := Lib.hid hb2
  have c4 := ho.get HV.out 4 (by decide)
  simp only [cellsOf, List.getElem?_cons_succ, List.getElem?_cons_zero] at c4
  have f := ho.free
  clear ho hb2
  have HP := Lib.hid (HO.out.put HV.out (v' := mk s v) 4 (by decide) (.int .u64 (Sm.add v.m s : Nat)) rfl (mk_ok HK.out s))
  have HPB := Lib.hid (HB2.out.setCell (p := ⟨g, j * 5 + 4, none⟩) hg (.int .u64 (Sm.add v.m s : Nat)))
  go_wp2_with (go_at_call 25; refine (with_any _ _ _ hm (by omega) (by omega)).mono ?_; rintro e w' ⟨rfl, rfl⟩)
  go_ret2
  have := HP.out
  rw [List.length_set] at this
  exact storePost_own (List.length_set ..).symm this HPB.out
theorem mark_any (A : Option Addr) (c : Nat) (L : List Vr) (x s : Int) (w : World) (h : VarsAt w A L) (hl : L.length ≤ 100) :
    Calls Try.prog 15 #[.slice A L.length c, .int .i64 x, .int .i64 s] w (StorePost (markL L x s) (markE L x s) w) := by
  by_cases hx : has L x
  · by_cases hs : slot s
    · rw [markL_ok hx hs, markE_ok hx hs]
      obtain ⟨j, rfl⟩ := Int.eq_ofNat_of_zero_le hx.1
      exact mark_yes A c j L s _ w h hl (by simpa using at_mem hx) hs
    · rw [markL_arg hx hs, markE_arg hx hs]
      exact mark_slot A c L x s w h hx hs
  · rw [markL_no hx, markE_no hx]
    exact mark_no A c L x s w h hx
end Go.Proofs.Ytgbfdfkodocdiaa
