/-
  The contracts of store.Drop, store.New and store.Values: loops that write a row of the call's own.
-/
import Derived.Test.YtgbfdfkodocdiaaStorePut
namespace Go.Proofs.Ytgbfdfkodocdiaa
open Go.RowKit St
theorem OwnVars.len_ {w : World} {base len cap : Nat} {e : TypeId} {A : Option Addr} {L : List Vr} (h : OwnVars w base e (.slice A len cap) L) : len = L.length := by
  rcases h.row.2 with ⟨e1, h0⟩ | ⟨g, cap', cur, e1, _⟩
  · injection e1; omega
  · injection e1
theorem OwnVars.some_ {w : World} {base len cap : Nat} {e : TypeId} {A : Option Addr} {L : List Vr} (h : OwnVars w base e (.slice A len cap) L) (hl : 0 < L.length) : ∃ g, A = some ⟨g, 0, none⟩ ∧ base ≤ g ∧ g < w.heap.size := by
  obtain ⟨g, cap', e1, h1, h2⟩ := h.open_ hl
  injection e1 with e1
  exact ⟨g, e1, h1, h2⟩
theorem OwnVars.get' {w : World} {base g len cap : Nat} {e : TypeId} {L : List Vr} (h : OwnVars w base e (.slice (some ⟨g, 0, none⟩) len cap) L) {j : Nat} {v : Vr} (hv : L[j]? = some v) (i : Nat) (hi : i < 5) : w.cell? ⟨g, j * 5 + i, none⟩ = (cellsOf v)[i]? := by
  have := h.len_
  subst this
  exact h.get hv i hi
theorem OwnVars.free' {w : World} {base g len cap : Nat} {e : TypeId} {L : List Vr} (h : OwnVars w base e (.slice (some ⟨g, 0, none⟩) len cap) L) (i : Nat) : w.frozen? ⟨g, i, none⟩ = false := by
  have := h.len_
  subst this
  exact h.free i
theorem OwnVars.put' {w : World} {base g len cap : Nat} {e : TypeId} {L : List Vr} (h : OwnVars w base e (.slice (some ⟨g, 0, none⟩) len cap) L) {j : Nat} {v v' : Vr} (hv : L[j]? = some v) (i : Nat) (hi : i < 5) (u : Value) (hc : (cellsOf v).set i u = cellsOf v') (hok : v'.ok) :
    OwnVars (w.setCell ⟨g, j * 5 + i, none⟩ u) base e (.slice (some ⟨g, 0, none⟩) len cap) (L.set j v') := by
  have := h.len_
  subst this
  have := h.put hv i hi u hc hok
  rwa [List.length_set] at this
/-- a store whose first k variables are done. -/
def mixed (f : Vr → Vr) (L : List Vr) (k : Nat) : List Vr := (L.take k).map f ++ L.drop k
theorem mixed_zero (f : Vr → Vr) (L : List Vr) : mixed f L 0 = L := by simp [mixed]
theorem mixed_all (f : Vr → Vr) (L : List Vr) {k : Nat} (h : L.length ≤ k) : mixed f L k = L.map f := by unfold mixed; rw [List.take_of_length_le h, List.drop_of_length_le h, List.append_nil]
theorem mixed_len (f : Vr → Vr) (L : List Vr) (k : Nat) : (mixed f L k).length = L.length := by simp [mixed]; omega
theorem mixed_at (f : Vr → Vr) {L : List Vr} {k : Nat} (h : k < L.length) : (mixed f L k)[k]? = L[k]? := by
  unfold mixed
  rw [List.getElem?_append_right (by simp; omega)]
  simp [Nat.min_eq_left (Nat.le_of_lt h)]
theorem mixed_set {f : Vr → Vr} {L : List Vr} {k : Nat} {v : Vr} (h : L[k]? = some v) : (mixed f L k).set k (f v) = mixed f L (k + 1) := by
  obtain ⟨hl, rfl⟩ := List.getElem?_eq_some_iff.1 h
  unfold mixed
  have hk : ((L.take k).map f).length = k := by simp; omega
  rw [List.set_append_right _ _ (by omega), hk, Nat.sub_self, List.drop_eq_getElem_cons hl, List.set_cons_zero, List.take_succ_eq_append_getElem hl, List.map_append, List.append_assoc]
  rfl
def DropRel (L : List Vr) (f : Vr → Vr) (A : Option Addr) (c : Nat) (w : World) (i : Value) (wr : World) : Prop := ∃ k : Nat, k ≤ L.length ∧ i = .int .i64 k ∧ OwnVars wr w.heap.size 35 (.slice A L.length c) (mixed f L k) ∧ Below w.heap.size w wr
set_option maxHeartbeats 1000000 in
theorem drop_any (A : Option Addr) (c : Nat) (L : List Vr) (s : Int) (w : World) (h : VarsAt w A L) (hl : L.length ≤ 100) (h0 : -9223372036854775808 ≤ s) (h1 : s ≤ 9223372036854775807) :
    Calls Try.prog 22 #[.slice A L.length c, .int .i64 s] w (RowPost (dropL L s) 35 w) := by
  have H := Lib.hid h
  clear h
  go_enter Try.func22, Try.ntmps22
  go_wp2_with fail
  refine (clone_any _ _ _ _ H.out hl).mono ?_
  rintro e w1 ⟨v, rfl, ho, hb⟩
  obtain ⟨A', c', rfl, _⟩ := ho.slice
  have HO := Lib.hid ho
  have HB := Lib.hid hb
  clear ho hb
  go_wp2
  go_loopw [10] (DropRel L (dr s) A' c' w) (fun i _ => L.length - (intOf i).toNat)
  case atStart => exact ⟨0, Nat.zero_le _, rfl, by rw [mixed_zero]; exact HO.out, HB.out⟩
  case round =>
    obtain ⟨k, hk, rfl, ho, hb⟩ := hrel
    have HO := Lib.hid ho
    have HB := Lib.hid hb
    clear ho hb
    by_cases hlt : k < L.length
    · obtain ⟨g, rfl, hg, hgl⟩ := HO.out.some_ (by rw [mixed_len]; omega)
      have hv := List.getElem?_eq_getElem hlt
      have hok := H.out.ok _ (List.getElem_mem hlt)
      generalize L[k] = v at hv hok
      have HV := Lib.hid hv
      have HK := Lib.hid hok
      have hm := hok.2.2.2.2
      have hv' : (mixed (dr s) L k)[k]? = some v := by rw [mixed_at _ hlt]; exact hv
      have c4 := HO.out.get' hv' 4 (by decide)
      simp only [cellsOf, List.getElem?_cons_succ, List.getElem?_cons_zero] at c4
      have f := HO.out.free'
      have ho1 := HO.out.put' hv' (v' := ⟨v.k, v.n, v.ver, v.wr, Sm.less v.m s⟩) 4 (by decide) (.int .u64 (Sm.less v.m s : Nat)) rfl ⟨hok.1, hok.2.1, hok.2.2.1, hok.2.2.2.1, Sm.less_lt s hm⟩
      have hv1 : ((mixed (dr s) L k).set k ⟨v.k, v.n, v.ver, v.wr, Sm.less v.m s⟩)[k]? = some ⟨v.k, v.n, v.ver, v.wr, Sm.less v.m s⟩ := List.getElem?_set_self (by rw [mixed_len]; exact hlt)
      have c3 := ho1.get' hv1 3 (by decide)
      simp only [cellsOf, List.getElem?_cons_succ, List.getElem?_cons_zero] at c3
      have f1 := ho1.free'
      have HB1 := Lib.hid (HB.out.setCell (p := ⟨g, k * 5 + 4, none⟩) hg (.int .u64 (Sm.less v.m s : Nat)))
      by_cases hw : v.wr = s
      · have ho2 := ho1.put' hv1 (v' := dr s v) 3 (by decide) (.int .i64 (-1)) (by unfold dr; rw [if_pos hw]; rfl) (dr_ok hok s)
        rw [List.set_set, mixed_set hv] at ho2
        have HO2 := Lib.hid ho2
        have HB2 := Lib.hid (HB1.out.setCell (p := ⟨g, k * 5 + 3, none⟩) hg (.int .i64 (-1)))
        clear hv hok hv' ho1 hv1 ho2
        subst hw
        go_wp2_with (go_at_call 33; refine (less_any _ _ _ hm h0 h1).mono ?_; rintro e w' ⟨rfl, rfl⟩)
        go_round
        case rel => exact ⟨k + 1, by omega, by go_num, HO2.out, HB2.out⟩
        case measure => simp [intOf]; omega
      · have hd : dr s v = ⟨v.k, v.n, v.ver, v.wr, Sm.less v.m s⟩ := by unfold dr; rw [if_neg hw]
        rw [← hd, mixed_set hv] at ho1
        have HO2 := Lib.hid ho1
        clear hv hok hv' ho1 hv1 hd
        go_wp2_with (go_at_call 33; refine (less_any _ _ _ hm h0 h1).mono ?_; rintro e w' ⟨rfl, rfl⟩)
        go_round
        case rel => exact ⟨k + 1, by omega, by go_num, HO2.out, HB1.out⟩
        case measure => simp [intOf]; omega
    · go_wp2
      go_ret
      have := HO.out
      rw [mixed_all _ _ (by omega)] at this
      exact ⟨_, rfl, this, HB.out⟩
theorem made_flat (n : Nat) : (madeCells #[.int .i64 0, .int .i64 0, .int .i64 0, .int .i64 0, .int .u64 0] (n * 5)).toList = flat (List.replicate n zero) := by
  apply List.ext_getElem?
  intro j
  by_cases hj : j < n * 5
  · have h1 : (List.replicate n zero)[j / 5]? = some zero := by rw [List.getElem?_replicate, if_pos (by omega)]
    have h2 := flat_at h1 (j % 5) (Nat.mod_lt _ (by decide))
    have e : j / 5 * 5 + j % 5 = j := by omega
    rw [e] at h2
    rw [h2]
    have hm : j % 5 < 5 := Nat.mod_lt _ (by decide)
    simp [madeCells, hj]
    generalize j % 5 = r at hm
    match r, hm with
    | 0, _ => rfl
    | 1, _ => rfl
    | 2, _ => rfl
    | 3, _ => rfl
    | 4, _ => rfl
  · rw [List.getElem?_eq_none (by simp [madeCells]; omega), List.getElem?_eq_none (by rw [flat_len]; simp; omega)]
def NewRel (n : Nat) (g : Nat) (w : World) (i : Value) (wr : World) : Prop := ∃ k : Nat, k ≤ n ∧ i = .int .i64 k ∧ OwnVars wr w.heap.size 35 (.slice (some ⟨g, 0, none⟩) n n) (mixed (fun _ => fresh) (List.replicate n zero) k) ∧ Below w.heap.size w wr
/-- a row and whether there is one. -/
def NewPost (L : List Vr) (b : Bool) (w : World) (e : Ending) (w' : World) : Prop := ∃ A c, e = .returned (.tuple #[.slice A L.length c, .bool b]) ∧ VarsAt w' A L ∧ Below w.heap.size w w'
theorem newPost_own {w w' : World} {L : List Vr} {b : Bool} {A : Option Addr} {cap len base : Nat} {e : TypeId} (ho : OwnVars w' base e (.slice A len cap) L) (hb : Below w.heap.size w w') :
    NewPost L b w (.returned (.tuple #[.slice A len cap, .bool b])) w' := by
  have := ho.len_
  subst this
  obtain ⟨A', c', e1, h1, h2, h3⟩ := ho.slice
  injection e1 with e1 _ e2
  subst e1; subst e2
  exact ⟨_, _, rfl, h3, hb⟩
theorem own_put5 {w : World} {base g len cap : Nat} {e : TypeId} {L : List Vr} (h : OwnVars w base e (.slice (some ⟨g, 0, none⟩) len cap) L) {j : Nat} (hj : j < L.length) {k n ver wr : Int} (hk : i64p k) (hn : i64p n) (hv : i64p ver) (hw : i64p wr) :
    OwnVars (put5 w g (j * 5) k n ver wr) base e (.slice (some ⟨g, 0, none⟩) len cap) (L.set j ⟨k, n, ver, wr, 0⟩) := by
  have := h.len_
  subst this
  exact h.put5 hj hk hn hv hw
set_option maxHeartbeats 1000000 in
theorem new_yes (n : Nat) (w : World) (hn : n ≤ 64) : Calls Try.prog 17 #[.int .i64 (n : Nat)] w (NewPost (List.replicate n fresh) true w) := by
  obtain ⟨i0, hi, hz0, hz1, hz2⟩ := info_parts var_info
  have hmk := fun W => run_make (P := Try.prog) W 29 35 i0 _ Try.underlying29 hi hz0 .i64 .i64 (n : Nat) (n : Nat) (by omega) (by omega) (by rw [hz2]; omega) (by omega)
  have h0 : ¬ ((n : Int) < 0) := by omega
  have h1 : ¬ ((64 : Int) < (n : Int)) := by omega
  have HO := Lib.hid (show OwnVars (w.alloc (.cells (madeCells #[.int .i64 0, .int .i64 0, .int .i64 0, .int .i64 0, .int .u64 0] (n * 5)) 35)) w.heap.size 35 (.slice (some ⟨w.heap.size, 0, none⟩) n n) (List.replicate n zero) from
    ⟨by rw [List.length_replicate, ← made_flat]; exact World.ownsRow_lit w _ n (Nat.le_refl _) (by unfold maxLen; omega) (size_madeCells _ _), fun v hv => by rw [List.eq_of_mem_replicate hv]; exact zero_ok⟩)
  have HB := Lib.hid (below_new w (.cells (madeCells #[.int .i64 0, .int .i64 0, .int .i64 0, .int .i64 0, .int .u64 0] (n * 5)) 35))
  simp only [Int.toNat_natCast, hz1, Value.cells] at hmk
  clear hi hz0 hz1 hz2
  go_enter Try.func17, Try.ntmps17
  go_wp2
  go_loopw [16] (NewRel n w.heap.size w) (fun i _ => n - (intOf i).toNat)
  case atStart => exact ⟨0, Nat.zero_le _, rfl, by rw [mixed_zero]; exact HO.out, HB.out⟩
  case round =>
    obtain ⟨k, hk, rfl, ho, hb⟩ := hrel
    have HO := Lib.hid ho
    have HB := Lib.hid hb
    clear ho hb hmk
    by_cases hlt : k < n
    · have hv : (List.replicate n zero)[k]? = some zero := by rw [List.getElem?_replicate, if_pos hlt]
      have hv' : (mixed (fun _ => fresh) (List.replicate n zero) k)[k]? = some zero := by rw [mixed_at _ (by simpa using hlt)]; exact hv
      have c0 := HO.out.get' hv' 0 (by decide)
      have c1 := HO.out.get' hv' 1 (by decide)
      have c2 := HO.out.get' hv' 2 (by decide)
      have c3 := HO.out.get' hv' 3 (by decide)
      have c4 := HO.out.get' hv' 4 (by decide)
      simp only [cellsOf, List.getElem?_cons_succ, List.getElem?_cons_zero, Nat.add_zero] at c0 c1 c2 c3 c4
      have f := HO.out.free'
      have ho2 := own_put5 HO.out (j := k) (by rw [mixed_len]; simpa using hlt) (k := 1) (n := 0) (ver := 0) (wr := -1) (by unfold i64p; omega) (by unfold i64p; omega) (by unfold i64p; omega) (by unfold i64p; omega)
      have e := mixed_set (f := fun _ => fresh) hv
      unfold fresh at e ho2
      rw [e] at ho2
      have HO2 := Lib.hid ho2
      have HB2 := Lib.hid (below_put5 HB.out (Nat.le_refl w.heap.size) 1 0 0 (-1) (o := k * 5))
      unfold put5 at HO2 HB2
      clear hv hv' e ho2
      go_wp2
      go_round
      case rel => exact ⟨k + 1, by omega, by go_num, HO2.out, HB2.out⟩
      case measure => simp [intOf]; omega
    · go_wp2
      go_ret2
      have := HO.out
      rw [mixed_all _ _ (by simp; omega), List.map_replicate] at this
      exact newPost_own this HB.out
set_option maxHeartbeats 1000000 in
theorem new_no (n : Int) (w : World) (hn : ¬ (0 ≤ n ∧ n ≤ 64)) : Calls Try.prog 17 #[.int .i64 n] w (NewPost [] false w) := by
  by_cases h0 : n < 0
  · clear hn
    go_enter Try.func17, Try.ntmps17
    go_wp2
    go_ret2
    exact ⟨_, _, rfl, VarsAt.none_ _ _, Below.refl _ _⟩
  · have h1 : (64 : Int) < n := by omega
    clear hn
    go_enter Try.func17, Try.ntmps17
    go_wp2
    go_ret2
    exact ⟨_, _, rfl, VarsAt.none_ _ _, Below.refl _ _⟩
theorem newIs_yes {n : Int} (h : 0 ≤ n ∧ n ≤ 64) : newIs n = true := by unfold newIs; simp [h.1, h.2]
theorem newIs_no {n : Int} (h : ¬ (0 ≤ n ∧ n ≤ 64)) : newIs n = false := by unfold newIs; simp; omega
theorem new_any (n : Int) (w : World) : Calls Try.prog 17 #[.int .i64 n] w (NewPost (newL n) (newIs n) w) := by
  unfold newL
  by_cases h : 0 ≤ n ∧ n ≤ 64
  · rw [newIs_yes h, if_pos rfl]
    obtain ⟨k, rfl⟩ := Int.eq_ofNat_of_zero_le h.1
    exact new_yes k w (by have := h.2; omega)
  · rw [newIs_no h, if_neg (by decide)]
    exact new_no n w h
end Go.Proofs.Ytgbfdfkodocdiaa
