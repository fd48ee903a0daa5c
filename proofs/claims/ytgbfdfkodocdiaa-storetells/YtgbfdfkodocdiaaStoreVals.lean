/-
  Rows of values in memory; the contract of store.Values.
-/
import Derived.Test.YtgbfdfkodocdiaaStoreMake
namespace Go.Proofs.Ytgbfdfkodocdiaa
open Go.RowKit St
def pcells (p : Int × Int) : List Value := [.int .i64 p.1, .int .i64 p.2]
def pflat (L : List (Int × Int)) : List Value := L.flatMap pcells
theorem pflat_len (L : List (Int × Int)) : (pflat L).length = L.length * 2 := by
  induction L with
  | nil => rfl
  | cons v L ih => simp only [pflat, List.flatMap_cons, List.length_append] at ih ⊢; rw [ih]; simp [pcells]; omega
theorem pflat_append (L M : List (Int × Int)) : pflat (L ++ M) = pflat L ++ pflat M := by simp [pflat]
theorem pflat_at {L : List (Int × Int)} {j : Nat} {v : Int × Int} (h : L[j]? = some v) (i : Nat) (hi : i < 2) : (pflat L)[j * 2 + i]? = (pcells v)[i]? := by
  obtain ⟨hl, rfl⟩ := List.getElem?_eq_some_iff.1 h
  have e : L = L.take j ++ (L[j] :: L.drop (j + 1)) := by simp
  have e2 : pflat L = pflat (L.take j) ++ (pcells L[j] ++ pflat (L.drop (j + 1))) := by
    conv => lhs; rw [e]
    rw [pflat_append]; rfl
  rw [e2, List.getElem?_append_right (by rw [pflat_len]; simp; omega), pflat_len]
  have : j * 2 + i - (List.take j L).length * 2 = i := by simp; omega
  rw [this, List.getElem?_append_left (by simp [pcells]; omega)]
theorem pflat_set {L : List (Int × Int)} {j : Nat} {v v' : Int × Int} {i : Nat} {u : Value} (h : L[j]? = some v) (hi : i < 2) (hc : (pcells v).set i u = pcells v') : (pflat L).set (j * 2 + i) u = pflat (L.set j v') := by
  obtain ⟨hl, rfl⟩ := List.getElem?_eq_some_iff.1 h
  have e : L = L.take j ++ (L[j] :: L.drop (j + 1)) := by simp
  have hj : (L.take j).length = j := by simp; omega
  have e2 : pflat L = pflat (L.take j) ++ (pcells L[j] ++ pflat (L.drop (j + 1))) := by
    conv => lhs; rw [e]
    rw [pflat_append]; rfl
  rw [e2, List.set_append_right _ _ (by rw [pflat_len, hj]; omega), pflat_len, hj, Nat.add_sub_cancel_left, List.set_append_left _ _ (by simp [pcells]; omega), hc]
  rw [List.set_eq_take_append_cons_drop, if_pos hl, pflat_append]
  rfl
/-- a row of the call's own, in block g, reads as these values. -/
structure ValsAt (w : World) (base g n : Nat) (L : List (Int × Int)) : Prop where
  row : w.ownsRow base 31 2 (.slice (some ⟨g, 0, none⟩) n n) n (pflat L)
  len : L.length = n
theorem ValsAt.ge {w : World} {base g n : Nat} {L : List (Int × Int)} (h : ValsAt w base g n L) : base ≤ g ∧ g < w.heap.size := h.row.lt g rfl
theorem ValsAt.free {w : World} {base g n : Nat} {L : List (Int × Int)} (h : ValsAt w base g n L) (i : Nat) : w.frozen? ⟨g, i, none⟩ = false := h.row.frozenAt i
theorem ValsAt.get {w : World} {base g n : Nat} {L : List (Int × Int)} (h : ValsAt w base g n L) {j : Nat} {v : Int × Int} (hv : L[j]? = some v) (i : Nat) (hi : i < 2) : w.cell? ⟨g, j * 2 + i, none⟩ = (pcells v)[i]? := by
  have hj : j < L.length := (List.getElem?_eq_some_iff.1 hv).1
  have := h.len
  rw [h.row.cellAt _ (by omega), pflat_at hv i hi]
theorem ValsAt.get0 {w : World} {base g n : Nat} {L : List (Int × Int)} (h : ValsAt w base g n L) {j : Nat} {v : Int × Int} (hv : L[j]? = some v) : w.cell? ⟨g, j * 2, none⟩ = some (.int .i64 v.1) := h.get hv 0 (by decide)
theorem ValsAt.get1 {w : World} {base g n : Nat} {L : List (Int × Int)} (h : ValsAt w base g n L) {j : Nat} {v : Int × Int} (hv : L[j]? = some v) : w.cell? ⟨g, j * 2 + 1, none⟩ = some (.int .i64 v.2) := h.get hv 1 (by decide)
theorem ValsAt.put {w : World} {base g n : Nat} {L : List (Int × Int)} (h : ValsAt w base g n L) {j : Nat} {v v' : Int × Int} (hv : L[j]? = some v) (i : Nat) (hi : i < 2) (u : Value) (hc : (pcells v).set i u = pcells v') :
    ValsAt (w.setCell ⟨g, j * 2 + i, none⟩ u) base g n (L.set j v') := by
  refine ⟨?_, by rw [List.length_set]; exact h.len⟩
  rw [← pflat_set hv hi hc]
  exact (h.row.stored _ u).1
theorem ValsAt.below {w w' : World} {base g n : Nat} {L : List (Int × Int)} {B : Nat} (h : ValsAt w base g n L) (hb : Below B w w') (hB : w.heap.size ≤ B) : ValsAt w' base g n L :=
  ⟨h.row.kept (row := none) ⟨hb.os, hb.tape, hb.output, hb.size, fun k hk _ => hb.block k (by omega)⟩ (by simp [Value.ownBlock]), h.len⟩
theorem pmade_flat (n : Nat) : (madeCells #[.int .i64 0, .int .i64 0] (n * 2)).toList = pflat (List.replicate n (0, 0)) := by
  apply List.ext_getElem?
  intro j
  by_cases hj : j < n * 2
  · have h1 : (List.replicate n ((0 : Int), (0 : Int)))[j / 2]? = some (0, 0) := by rw [List.getElem?_replicate, if_pos (by omega)]
    have h2 := pflat_at h1 (j % 2) (Nat.mod_lt _ (by decide))
    have e : j / 2 * 2 + j % 2 = j := by omega
    rw [e] at h2
    rw [h2]
    have hm : j % 2 < 2 := Nat.mod_lt _ (by decide)
    simp [madeCells, hj]
    generalize j % 2 = r at hm
    match r, hm with
    | 0, _ => rfl
    | 1, _ => rfl
  · rw [List.getElem?_eq_none (by simp [madeCells]; omega), List.getElem?_eq_none (by rw [pflat_len]; simp; omega)]
def vp (v : Vr) : Int × Int := (v.k, v.n)
def pmix (L : List Vr) (k : Nat) : List (Int × Int) := (L.take k).map vp ++ List.replicate (L.length - k) (0, 0)
theorem pmix_zero (L : List Vr) : pmix L 0 = List.replicate L.length (0, 0) := by simp [pmix]
theorem pmix_all (L : List Vr) {k : Nat} (h : L.length ≤ k) : pmix L k = L.map vp := by unfold pmix; rw [List.take_of_length_le h, Nat.sub_eq_zero_of_le h]; simp
theorem pmix_len (L : List Vr) {k : Nat} (h : k ≤ L.length) : (pmix L k).length = L.length := by simp [pmix]; omega
theorem pmix_at {L : List Vr} {k : Nat} (h : k < L.length) : (pmix L k)[k]? = some (0, 0) := by
  unfold pmix
  rw [List.getElem?_append_right (by simp; omega), List.getElem?_replicate, if_pos (by simp; omega)]
theorem pmix_set {L : List Vr} {k : Nat} {v : Vr} (h : L[k]? = some v) : (pmix L k).set k (v.k, v.n) = pmix L (k + 1) := by
  obtain ⟨hl, rfl⟩ := List.getElem?_eq_some_iff.1 h
  unfold pmix
  have hk : ((L.take k).map vp).length = k := by simp; omega
  have e : L.length - k = (L.length - (k + 1)) + 1 := by omega
  rw [List.set_append_right _ _ (by omega), hk, Nat.sub_self, e, List.replicate_succ, List.set_cons_zero, List.take_succ_eq_append_getElem hl, List.map_append, List.append_assoc]
  rfl
theorem vals_info : (Try.prog.info? 31).map (fun i => (i.zero, i.size, i.bytes)) = some (some (.agg #[.int .i64 0, .int .i64 0]), 2, 16) := by kernel_rfl
def ValsRel (L : List Vr) (g : Nat) (w : World) (i : Value) (wr : World) : Prop := ∃ k : Nat, k ≤ L.length ∧ i = .int .i64 k ∧ ValsAt wr w.heap.size g L.length (pmix L k) ∧ Below w.heap.size w wr
set_option maxHeartbeats 1000000 in
theorem values_any (A : Option Addr) (c : Nat) (L : List Vr) (w : World) (h : VarsAt w A L) (hl : L.length ≤ 100) :
    Calls Try.prog 19 #[.slice A L.length c] w fun e w' => ∃ g, e = .returned (.slice (some ⟨g, 0, none⟩) L.length L.length) ∧ ValsAt w' w.heap.size g L.length (L.map vp) ∧ Below w.heap.size w w' := by
  have H := Lib.hid h
  clear h
  obtain ⟨i0, hi, hz0, hz1, hz2⟩ := info_parts vals_info
  have hmk := fun W => run_make (P := Try.prog) W 53 31 i0 _ Try.underlying53 hi hz0 .i64 .i64 (L.length : Nat) (L.length : Nat) (by omega) (by omega) (by rw [hz2]; omega) (by omega)
  have HO := Lib.hid (show ValsAt (w.alloc (.cells (madeCells #[.int .i64 0, .int .i64 0] (L.length * 2)) 31)) w.heap.size w.heap.size L.length (List.replicate L.length (0, 0)) from
    ⟨by rw [← pmade_flat]; exact World.ownsRow_lit w _ _ (Nat.le_refl _) (by unfold maxLen; omega) (size_madeCells _ _), by simp⟩)
  have HB := Lib.hid (below_new w (.cells (madeCells #[.int .i64 0, .int .i64 0] (L.length * 2)) 31))
  simp only [Int.toNat_natCast, hz1, Value.cells] at hmk
  clear hi hz0 hz1 hz2
  go_enter Try.func19, Try.ntmps19
  go_wp2
  go_loopw [10] (ValsRel L w.heap.size w) (fun i _ => L.length - (intOf i).toNat)
  case atStart => exact ⟨0, Nat.zero_le _, rfl, by rw [pmix_zero]; exact HO.out, HB.out⟩
  case round =>
    obtain ⟨k, hk, rfl, ho, hb⟩ := hrel
    have HO := Lib.hid ho
    have HB := Lib.hid hb
    clear ho hb hmk
    by_cases hlt : k < L.length
    · obtain ⟨ad, v, rfl, hv, hok, h5⟩ := (H.out.below HB.out (Nat.le_refl _)).at_ hlt
      have a0 := h5.c0
      have a1 := h5.c1
      have hv0 := pmix_at hlt
      have c0 := HO.out.get0 hv0
      have c1 := HO.out.get1 hv0
      have f := HO.out.free
      have ho2 := (HO.out.put hv0 (v' := (v.k, 0)) 0 (by decide) (.int .i64 v.k) rfl).put (j := k) (List.getElem?_set_self (by rw [pmix_len L hk]; exact hlt)) (v' := (v.k, v.n)) 1 (by decide) (.int .i64 v.n) rfl
      rw [List.set_set, pmix_set hv] at ho2
      have HO2 := Lib.hid ho2
      have HB2 := Lib.hid ((HB.out.setCell (p := ⟨w.heap.size, k * 2, none⟩) (Nat.le_refl _) (.int .i64 v.k)).setCell (p := ⟨w.heap.size, k * 2 + 1, none⟩) (Nat.le_refl _) (.int .i64 v.n))
      clear hv hok h5 hv0 ho2
      go_wp2
      go_round
      case rel => exact ⟨k + 1, by omega, by go_num, HO2.out, HB2.out⟩
      case measure => simp [intOf]; omega
    · go_wp2
      go_ret
      have := HO.out
      rw [pmix_all _ (by omega)] at this
      exact ⟨_, rfl, this, HB.out⟩
end Go.Proofs.Ytgbfdfkodocdiaa
