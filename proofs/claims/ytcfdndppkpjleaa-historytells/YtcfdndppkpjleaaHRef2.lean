/-
  Contracts of the document's functions: the variables that are met; who wrote last; who has to stand ahead by a variable.
-/
import Derived.Test.YtcfdndppkpjleaaHRef1
import Derived.Test.YtcfdndppkpjleaaMRefBits
namespace Go.Proofs.Ytcfdndppkpjleaa.Hi
open Go.RowKit
open Tx (i64p right)
/- the variables -/
def met (L : List Ev) (i : Nat) : Bool := L.any fun e => decide (e.x = (i : Int))
def metA (L : List Ev) : Array Value := ((List.range 64).map fun i => Value.bool (met L i)).toArray
theorem metA_size (L : List Ev) : (metA L).size = 64 := by simp [metA]
theorem metA_get (L : List Ev) (i : Nat) (h : i < 64) : (metA L)[i]? = some (.bool (met L i)) := by simp [metA, h]
theorem metA_nil : metA [] = Array.replicate 64 (Value.bool false) := by
  apply Array.ext_getElem?
  intro i
  by_cases h : i < 64
  · rw [metA_get [] i h]; simp [h, met]
  · rw [Array.getElem?_eq_none (by rw [metA_size]; omega), Array.getElem?_eq_none (by simp; omega)]
theorem metA_step {L : List Ev} {k n : Nat} {e : Ev} (he : L[k]? = some e) (hx : e.x = (n : Int)) (hn : n < 64) : (metA (L.take k)).setIfInBounds n (.bool true) = metA (L.take (k + 1)) := by
  apply Array.ext_getElem?
  intro i
  by_cases h : i < 64
  · rw [Array.getElem?_setIfInBounds, metA_get _ i h, metA_get _ i h, metA_size, Rn.step_take he]
    unfold met
    rw [List.any_append]
    by_cases q : n = i
    · subst q
      simp [hn, hx]
    · have : ¬ ((n : Int) = (i : Int)) := by omega
      simp [q, hx, this]
  · rw [Array.getElem?_eq_none (by simp [metA_size]; omega), Array.getElem?_eq_none (by rw [metA_size]; omega)]
theorem metA_same {L : List Ev} {k : Nat} {e : Ev} (he : L[k]? = some e) (hx : ¬ (0 ≤ e.x ∧ e.x < 64)) : metA (L.take (k + 1)) = metA (L.take k) := by
  apply Array.ext_getElem?
  intro i
  by_cases h : i < 64
  · rw [metA_get _ i h, metA_get _ i h, Rn.step_take he]
    unfold met
    rw [List.any_append]
    have : ¬ (e.x = (i : Int)) := fun q => hx (by omega)
    simp [this]
  · rw [Array.getElem?_eq_none (by rw [metA_size]; omega), Array.getElem?_eq_none (by rw [metA_size]; omega)]
theorem metA_one (L : List Ev) : (metA L).all (·.oneCell') = true := by
  rw [Array.all_eq_true]
  intro i hi
  rw [metA_size] at hi
  have := metA_get L i hi
  rw [Array.getElem?_eq_getElem (by rw [metA_size]; exact hi)] at this
  injection this with this
  rw [this]; rfl
def VaRel (L : List Ev) (w : World) (i : Value) (wr : World) : Prop :=
  ∃ k : Nat, k ≤ L.length ∧ i = .int .i64 k ∧ wr.heap[w.heap.size]? = some (.cells (metA []) 86 (0, 0)) ∧
    wr.heap[w.heap.size + 1]? = some (.cells (metA (L.take k)) 86 (0, 0)) ∧ Below w.heap.size w wr
set_option maxHeartbeats 1000000 in
set_option maxRecDepth 100000 in
theorem vars_any (A : Option Addr) (c : Nat) (L : List Ev) (w : World) (h : Rn.At encE w A L) (hl : L.length ≤ 2000) :
    Calls Try.prog 38 #[.slice A L.length c] w fun e w' => e = .returned (.agg (metA L)) ∧ Below w.heap.size w w' := by
  have H := Lib.hid h
  have hXN : (L.length : Int) ≤ 2000 := by omega
  clear h hl
  go_enter Try.func38, Try.ntmps38
  go_wp2
  go_loopw [4] (VaRel L w) (fun i _ => L.length - (intOf i).toNat)
  case atStart =>
    refine ⟨0, Nat.zero_le _, rfl, ?_, ?_, ((Below.refl _ _).alloc (Nat.le_refl _) _).alloc (by simp) _⟩
    · rw [heap_alloc2_old, metA_nil]; rfl
    · rw [heap_alloc2_new, List.take_zero, metA_nil]; rfl
  case round =>
    obtain ⟨k, hk, rfl, hh0, hh1, hb⟩ := hrel
    have H0 := Lib.hid hh0
    have H1 := Lib.hid hh1
    have HB := Lib.hid hb
    clear hh0 hh1 hb
    by_cases hlt : k < L.length
    · have he : L[k]? = some L[k] := List.getElem?_eq_getElem hlt
      generalize L[k] = e at he
      obtain ⟨ad, rfl, c0, c1, c2, c3, c4⟩ := atE (H.out.below HB.out (Nat.le_refl _)) he
      have HE := Lib.hid he
      clear he
      have hlt' : (k : Int) < (L.length : Int) := by omega
      by_cases h0 : 0 ≤ e.x
      · obtain ⟨n, hn⟩ : ∃ n : Nat, e.x = (n : Int) := ⟨e.x.toNat, by omega⟩
        have HX := Lib.hid hn
        rw [hn] at c2
        clear h0 hn
        have h0 : (n : Int) ≥ 0 := by omega
        by_cases h1 : n < 64
        · have h1' : (n : Int) < 64 := by omega
          have HA := Lib.hid (metA_step HE.out HX.out h1)
          have hc : wr.cell? ⟨w.heap.size + 1, n, none⟩ = some (.bool (met (L.take k) n)) := by rw [cell_of_row _ _ _ _ _ _ H1.out, metA_get _ n h1]
          have hf : wr.frozen? ⟨w.heap.size + 1, n, none⟩ = false := frozen_of_row H1.out
          go_wp2
          go_round
          case rel =>
            refine ⟨k + 1, by omega, by go_num, ?_, ?_, HB.out.setCell (by simp) _⟩
            · rw [Below.heap_setCell _ _ _ _ (by simp)]; exact H0.out
            · rw [heap_set H1.out, HA.out]
          case measure => simp [intOf]; omega
        · have h1' : ¬ (n : Int) < 64 := by omega
          have HA := Lib.hid (metA_same HE.out (fun q => by have := HX.out; omega))
          go_wp2
          go_round
          case rel => exact ⟨k + 1, by omega, by go_num, H0.out, by rw [HA.out]; exact H1.out, HB.out⟩
          case measure => simp [intOf]; omega
      · have h0' : ¬ e.x ≥ 0 := h0
        have HA := Lib.hid (metA_same HE.out (fun q => h0 q.1))
        go_wp2
        go_round
        case rel => exact ⟨k + 1, by omega, by go_num, H0.out, by rw [HA.out]; exact H1.out, HB.out⟩
        case measure => simp [intOf]; omega
    · have hlt' : ¬ (k : Int) < (L.length : Int) := by omega
      have h1 := H1.out
      rw [List.take_of_length_le (by omega)] at h1
      have H2 := Lib.hid h1
      clear h1
      go_wp2_with (first
        | (refine wpList_load_row (o := ⟨some 31, _, _, _, _, _⟩) rfl 86 (.tmp 3) rfl (w.heap.size + 1) rfl 86 (metA L) (0, 0) _ H2.out Try.underlying86 rfl (by rw [metA_size]; exact boolarr_info) ?_)
        | (refine wpList_store_row rfl 86 (.tmp 2) (.tmp 31) rfl w.heap.size (metA L) rfl rfl 86 (metA []) H0.out (by rw [metA_size]; exact boolarr_info) (by rw [metA_size, metA_size]) (metA_one _) ?_))
      refine bodyPost_ret (v := .agg (metA L)) (results_cell_row rfl _ _ w.heap.size 86 (metA L) (0, 0) _ rfl (setRow_heap _ _ _ _ _ _ H0.out) Try.underlying86 rfl (by rw [metA_size]; exact boolarr_info)) rfl ⟨rfl, ?_⟩
      exact setRow_below HB.out (Nat.le_refl _)
/- who wrote last -/
def wtI (L : List Ev) (x : Int) : Nat → Int
  | 0 => 0
  | k + 1 => match L[k]? with
    | some e => if e.kd = 3 ∧ 0 ≤ wrI L e.id x then e.id else wtI L x k
    | none => wtI L x k
theorem wt_hit {L : List Ev} {x : Int} {k : Nat} {e : Ev} (he : L[k]? = some e) (h : e.kd = 3 ∧ 0 ≤ wrI L e.id x) : wtI L x (k + 1) = e.id := by
  conv => lhs; unfold wtI
  rw [he]; simp only; rw [if_pos h]
theorem wt_skip {L : List Ev} {x : Int} {k : Nat} {e : Ev} (he : L[k]? = some e) (h : ¬ (e.kd = 3 ∧ 0 ≤ wrI L e.id x)) : wtI L x (k + 1) = wtI L x k := by
  conv => lhs; unfold wtI
  rw [he]; simp only; rw [if_neg h]
def WtRel (L : List Ev) (x : Int) (n : Nat) (w : World) (i : Value) (wr : World) : Prop := ∃ (k : Nat) (z : Int), k ≤ n ∧ z = (k : Int) - 1 ∧ i = .int .i64 z ∧ wtI L x k = wtI L x n ∧ wr = w
set_option maxHeartbeats 1000000 in
theorem writer_any (A : Option Addr) (c : Nat) (L : List Ev) (n : Nat) (x : Int) (w : World) (h : Rn.At encE w A L) (hl : L.length ≤ 2000) (hn : n ≤ L.length) :
    Calls Try.prog 62 #[.slice A L.length c, .int .i64 (n : Nat), .int .i64 x] w fun r w' => r = .returned (.int .i64 (wtI L x n)) ∧ w' = w := by
  have H := Lib.hid h
  have HN := Lib.hid hl
  have hXN : (L.length : Int) ≤ 2000 := by omega
  have hNN : (n : Int) ≤ 2000 := by omega
  clear h hl
  go_enter Try.func62, Try.ntmps62
  go_wp2
  go_loopw [7] (WtRel L x n w) (fun i _ => (intOf i + 1).toNat)
  case atStart => exact ⟨n, (n : Int) - 1, Nat.le_refl _, rfl, by go_num, rfl, rfl⟩
  case round =>
    obtain ⟨k, z, hk, hz, rfl, h0, rfl⟩ := hrel
    have H0 := Lib.hid h0
    clear h0
    rcases k with _ | j
    · obtain rfl : z = -1 := by omega
      clear hz
      go_wp2
      go_ret
      exact ⟨by rw [← H0.out]; rfl, rfl⟩
    · obtain rfl : z = (j : Int) := by omega
      clear hz
      have hlt : j < L.length := by omega
      have he : L[j]? = some L[j] := List.getElem?_eq_getElem hlt
      generalize L[j] = e at he
      have HE := Lib.hid he
      obtain ⟨ad, rfl, c0, c1, c2, c3, c4⟩ := atE H.out he
      clear he
      have hlt' : (j : Int) < (L.length : Int) := by omega
      have hge : (j : Int) ≥ 0 := by omega
      by_cases h1 : e.kd = 3
      · have b1 : (e.kd == 3) = true := by simpa using h1
        generalize hv : wrI L e.id x = v
        have HV := Lib.hid hv
        clear hv
        by_cases h2 : v ≥ 0
        · have HA := Lib.hid ((wt_hit HE.out ⟨h1, by rw [HV.out]; exact h2⟩).symm.trans H0.out)
          clear h1
          go_wp2_with fail
          refine (write_val (some ad) c L e.id x v _ H.out HN.out HV.out).mono ?_
          rintro q w1 ⟨rfl, rfl⟩
          go_wp2
          go_ret
          exact ⟨by rw [← HA.out]; rfl, rfl⟩
        · have HA := Lib.hid ((wt_skip HE.out (fun q => h2 (by have := q.2; rw [HV.out] at this; exact this))).symm.trans H0.out)
          clear h1
          go_wp2_with fail
          refine (write_val (some ad) c L e.id x v _ H.out HN.out HV.out).mono ?_
          rintro q w1 ⟨rfl, rfl⟩
          go_wp2
          go_round
          case rel => exact ⟨j, (j : Int) - 1, by omega, rfl, by go_num, HA.out, rfl⟩
          case measure => simp [intOf]
      · have b1 : (e.kd == 3) = false := by simpa using h1
        have HA := Lib.hid ((wt_skip HE.out (fun q => h1 q.1)).symm.trans H0.out)
        clear h1
        go_wp2
        go_round
        case rel => exact ⟨j, (j : Int) - 1, by omega, rfl, by go_num, HA.out, rfl⟩
        case measure => simp [intOf]
theorem writer_val (A : Option Addr) (c : Nat) (L : List Ev) (n : Nat) (x r : Int) (w : World) (h : Rn.At encE w A L) (hl : L.length ≤ 2000) (hn : n ≤ L.length) (hr : wtI L x n = r) :
    Calls Try.prog 62 #[.slice A L.length c, .int .i64 (n : Nat), .int .i64 x] w fun e w' => e = .returned (.int .i64 r) ∧ w' = w := hr ▸ writer_any A c L n x w h hl hn
/- by a variable -/
def ahI (ca cb r s wa wb wt a : Int) : Bool := if 0 ≤ r ∧ wt = a then true else if 0 ≤ wa ∧ 0 ≤ wb ∧ ca < cb then true else decide (0 ≤ s ∧ 0 ≤ wb ∧ s < cb)
def ahead (L : List Ev) (a b x : Int) : Bool := ahI (whI L 3 a) (whI L 3 b) (rdI L b x) (rdI L a x) (wrI L a x) (wrI L b x) (wtI L x (rdI L b x).toNat) a
theorem ah_true1 {ca cb r s wa wb wt a : Int} (h : 0 ≤ r ∧ wt = a) : ahI ca cb r s wa wb wt a = true := by unfold ahI; rw [if_pos h]
theorem ah_true2 {ca cb r s wa wb wt a : Int} (h : 0 ≤ wa ∧ 0 ≤ wb ∧ ca < cb) : ahI ca cb r s wa wb wt a = true := by
  unfold ahI
  by_cases q : 0 ≤ r ∧ wt = a
  · rw [if_pos q]
  · rw [if_neg q, if_pos h]
theorem ah_true3 {ca cb r s wa wb wt a : Int} (h : 0 ≤ s ∧ 0 ≤ wb ∧ s < cb) : ahI ca cb r s wa wb wt a = true := by
  unfold ahI; split
  · rfl
  · split
    · rfl
    · simp [h]
theorem ah_dec {ca cb r s wa wb wt a : Int} (h1 : ¬ (0 ≤ r ∧ wt = a)) (h2 : ¬ (0 ≤ wa ∧ 0 ≤ wb ∧ ca < cb)) (h3 : 0 ≤ s ∧ 0 ≤ wb) : ahI ca cb r s wa wb wt a = decide (s < cb) := by
  unfold ahI; rw [if_neg h1, if_neg h2, decide_eq_decide]
  exact ⟨fun q => q.2.2, fun q => ⟨h3.1, h3.2, q⟩⟩
theorem ah_false {ca cb r s wa wb wt a : Int} (h1 : ¬ (0 ≤ r ∧ wt = a)) (h2 : ¬ (0 ≤ wa ∧ 0 ≤ wb ∧ ca < cb)) (h3 : ¬ (0 ≤ s ∧ 0 ≤ wb ∧ s < cb)) : ahI ca cb r s wa wb wt a = false := by
  unfold ahI; rw [if_neg h1, if_neg h2, decide_eq_false h3]
theorem rdS_lt (L : List Ev) (id x : Int) : rdS L id x < (L.length : Int) := by
  refine rev_ind (P := fun L => rdS L id x < (L.length : Int)) ?_ ?_ L
  · show (-1 : Int) < 0; decide
  · intro a e ih
    unfold rdS at *
    rw [scan_snoc, List.length_append]
    generalize scan (rdF id x) (-1) a = r at ih
    unfold rdF
    simp only [List.length_cons, List.length_nil]
    split
    · split
      · omega
      · split <;> omega
    · omega
theorem rdI_lt (L : List Ev) (id x : Int) : rdI L id x ≤ (L.length : Int) := by
  unfold rdI
  have := rdS_lt L id x
  split <;> omega
set_option maxHeartbeats 4000000 in
theorem ahead_any (A : Option Addr) (c : Nat) (L : List Ev) (a b x : Int) (w : World) (h : Rn.At encE w A L) (hl : L.length ≤ 2000) :
    Calls Try.prog 47 #[.slice A L.length c, .int .i64 a, .int .i64 b, .int .i64 x] w fun r w' => r = .returned (.bool (ahead L a b x)) ∧ w' = w := by
  have H := Lib.hid h
  have HN := Lib.hid hl
  clear h hl
  have HRL := Lib.hid (rdI_lt L b x)
  unfold ahead
  generalize hca : whI L 3 a = ca
  generalize hcb : whI L 3 b = cb
  generalize hr : rdI L b x = r at HRL ⊢
  generalize hs : rdI L a x = s
  generalize hwa : wrI L a x = wa
  generalize hwb : wrI L b x = wb
  have HCA := Lib.hid hca
  have HCB := Lib.hid hcb
  have HR := Lib.hid hr
  have HS := Lib.hid hs
  have HWA := Lib.hid hwa
  have HWB := Lib.hid hwb
  clear hca hcb hr hs hwa hwb
  generalize hres : ahI ca cb r s wa wb (wtI L x r.toNat) a = res
  have HRES := Lib.hid hres
  clear hres
  go_enter Try.func47, Try.ntmps47
  go_wp2_with fail
  refine (where_val (A) (c) L 3 a ca _ H.out HN.out HCA.out).mono ?_
  rintro q1 w1 ⟨rfl, rfl⟩
  go_wp2_with fail
  refine (where_val (A) (c) L 3 b cb _ H.out HN.out HCB.out).mono ?_
  rintro q1 w1 ⟨rfl, rfl⟩
  by_cases h1 : 0 ≤ r
  · obtain ⟨n, rfl⟩ : ∃ n : Nat, r = (n : Int) := ⟨r.toNat, by omega⟩
    have h1g : (n : Int) ≥ 0 := h1
    have hnl : n ≤ L.length := by have := HRL.out; omega
    rw [Int.toNat_natCast] at HRES
    generalize hwt : wtI L x n = wt at HRES
    have HWT := Lib.hid hwt
    clear hwt
    go_wp2_with fail
    refine (read_val A c L b x (n : Nat) _ H.out HN.out HR.out).mono ?_
    rintro q1 w1 ⟨rfl, rfl⟩
    go_wp2_with fail
    refine (writer_val A c L n x wt _ H.out HN.out hnl HWT.out).mono ?_
    rintro q1 w1 ⟨rfl, rfl⟩
    by_cases h2 : wt = a
    · have b2 : (wt == a) = true := by simpa using h2
      go_wp2
      go_ret
      refine ⟨?_, rfl⟩
      rw [← HRES.out]
      first
        | (refine (congrArg (fun b => Ending.returned (Value.bool b)) (ah_false ?_ ?_ ?_)).symm <;> omega)
        | (refine (congrArg (fun b => Ending.returned (Value.bool b)) (ah_dec ?_ ?_ ?_)).symm <;> omega)
        | (refine (congrArg (fun b => Ending.returned (Value.bool b)) (ah_true3 ?_)).symm <;> omega)
        | (refine (congrArg (fun b => Ending.returned (Value.bool b)) (ah_true2 ?_)).symm <;> omega)
        | (refine (congrArg (fun b => Ending.returned (Value.bool b)) (ah_true1 ?_)).symm <;> omega)
    · have b2 : (wt == a) = false := by simpa using h2
      go_wp2_with fail
      refine (write_val A c L a x wa _ H.out HN.out HWA.out).mono ?_
      rintro q1 w1 ⟨rfl, rfl⟩
      by_cases h3 : wa ≥ 0
      · have q3 := h3
        go_wp2_with fail
        refine (write_val A c L b x wb _ H.out HN.out HWB.out).mono ?_
        rintro q1 w1 ⟨rfl, rfl⟩
        by_cases h4 : wb ≥ 0
        · by_cases h5 : ca < cb
          · go_wp2
            go_ret
            refine ⟨?_, rfl⟩
            rw [← HRES.out]
            first
              | (refine (congrArg (fun b => Ending.returned (Value.bool b)) (ah_false ?_ ?_ ?_)).symm <;> omega)
              | (refine (congrArg (fun b => Ending.returned (Value.bool b)) (ah_dec ?_ ?_ ?_)).symm <;> omega)
              | (refine (congrArg (fun b => Ending.returned (Value.bool b)) (ah_true3 ?_)).symm <;> omega)
              | (refine (congrArg (fun b => Ending.returned (Value.bool b)) (ah_true2 ?_)).symm <;> omega)
              | (refine (congrArg (fun b => Ending.returned (Value.bool b)) (ah_true1 ?_)).symm <;> omega)
          · have q5 := h5
            go_wp2_with fail
            refine (read_val A c L a x s _ H.out HN.out HS.out).mono ?_
            rintro q1 w1 ⟨rfl, rfl⟩
            by_cases h6 : s ≥ 0
            · have q6 := h6
              go_wp2_with fail
              refine (write_val A c L b x wb _ H.out HN.out HWB.out).mono ?_
              rintro q1 w1 ⟨rfl, rfl⟩
              by_cases h7 : cb > s
              · go_wp2
                go_ret
                refine ⟨?_, rfl⟩
                rw [← HRES.out]
                first
                  | (refine (congrArg (fun b => Ending.returned (Value.bool b)) (ah_false ?_ ?_ ?_)).symm <;> omega)
                  | (refine (congrArg (fun b => Ending.returned (Value.bool b)) (ah_dec ?_ ?_ ?_)).symm <;> omega)
                  | (refine (congrArg (fun b => Ending.returned (Value.bool b)) (ah_true3 ?_)).symm <;> omega)
                  | (refine (congrArg (fun b => Ending.returned (Value.bool b)) (ah_true2 ?_)).symm <;> omega)
                  | (refine (congrArg (fun b => Ending.returned (Value.bool b)) (ah_true1 ?_)).symm <;> omega)
              · go_wp2
                go_ret
                refine ⟨?_, rfl⟩
                rw [← HRES.out]
                first
                  | (refine (congrArg (fun b => Ending.returned (Value.bool b)) (ah_false ?_ ?_ ?_)).symm <;> omega)
                  | (refine (congrArg (fun b => Ending.returned (Value.bool b)) (ah_dec ?_ ?_ ?_)).symm <;> omega)
                  | (refine (congrArg (fun b => Ending.returned (Value.bool b)) (ah_true3 ?_)).symm <;> omega)
                  | (refine (congrArg (fun b => Ending.returned (Value.bool b)) (ah_true2 ?_)).symm <;> omega)
                  | (refine (congrArg (fun b => Ending.returned (Value.bool b)) (ah_true1 ?_)).symm <;> omega)
            · go_wp2
              go_ret
              refine ⟨?_, rfl⟩
              rw [← HRES.out]
              first
                | (refine (congrArg (fun b => Ending.returned (Value.bool b)) (ah_false ?_ ?_ ?_)).symm <;> omega)
                | (refine (congrArg (fun b => Ending.returned (Value.bool b)) (ah_dec ?_ ?_ ?_)).symm <;> omega)
                | (refine (congrArg (fun b => Ending.returned (Value.bool b)) (ah_true3 ?_)).symm <;> omega)
                | (refine (congrArg (fun b => Ending.returned (Value.bool b)) (ah_true2 ?_)).symm <;> omega)
                | (refine (congrArg (fun b => Ending.returned (Value.bool b)) (ah_true1 ?_)).symm <;> omega)
        · have q4 := h4
          go_wp2_with fail
          refine (read_val A c L a x s _ H.out HN.out HS.out).mono ?_
          rintro q1 w1 ⟨rfl, rfl⟩
          by_cases h6 : s ≥ 0
          · have q6 := h6
            go_wp2_with fail
            refine (write_val A c L b x wb _ H.out HN.out HWB.out).mono ?_
            rintro q1 w1 ⟨rfl, rfl⟩
            go_wp2
            go_ret
            refine ⟨?_, rfl⟩
            rw [← HRES.out]
            first
              | (refine (congrArg (fun b => Ending.returned (Value.bool b)) (ah_false ?_ ?_ ?_)).symm <;> omega)
              | (refine (congrArg (fun b => Ending.returned (Value.bool b)) (ah_dec ?_ ?_ ?_)).symm <;> omega)
              | (refine (congrArg (fun b => Ending.returned (Value.bool b)) (ah_true3 ?_)).symm <;> omega)
              | (refine (congrArg (fun b => Ending.returned (Value.bool b)) (ah_true2 ?_)).symm <;> omega)
              | (refine (congrArg (fun b => Ending.returned (Value.bool b)) (ah_true1 ?_)).symm <;> omega)
          · go_wp2
            go_ret
            refine ⟨?_, rfl⟩
            rw [← HRES.out]
            first
              | (refine (congrArg (fun b => Ending.returned (Value.bool b)) (ah_false ?_ ?_ ?_)).symm <;> omega)
              | (refine (congrArg (fun b => Ending.returned (Value.bool b)) (ah_dec ?_ ?_ ?_)).symm <;> omega)
              | (refine (congrArg (fun b => Ending.returned (Value.bool b)) (ah_true3 ?_)).symm <;> omega)
              | (refine (congrArg (fun b => Ending.returned (Value.bool b)) (ah_true2 ?_)).symm <;> omega)
              | (refine (congrArg (fun b => Ending.returned (Value.bool b)) (ah_true1 ?_)).symm <;> omega)
      · have q3 := h3
        go_wp2_with fail
        refine (read_val A c L a x s _ H.out HN.out HS.out).mono ?_
        rintro q1 w1 ⟨rfl, rfl⟩
        by_cases h6 : s ≥ 0
        · have q6 := h6
          go_wp2_with fail
          refine (write_val A c L b x wb _ H.out HN.out HWB.out).mono ?_
          rintro q1 w1 ⟨rfl, rfl⟩
          by_cases h4 : wb ≥ 0
          · by_cases h7 : cb > s
            · go_wp2
              go_ret
              refine ⟨?_, rfl⟩
              rw [← HRES.out]
              first
                | (refine (congrArg (fun b => Ending.returned (Value.bool b)) (ah_false ?_ ?_ ?_)).symm <;> omega)
                | (refine (congrArg (fun b => Ending.returned (Value.bool b)) (ah_dec ?_ ?_ ?_)).symm <;> omega)
                | (refine (congrArg (fun b => Ending.returned (Value.bool b)) (ah_true3 ?_)).symm <;> omega)
                | (refine (congrArg (fun b => Ending.returned (Value.bool b)) (ah_true2 ?_)).symm <;> omega)
                | (refine (congrArg (fun b => Ending.returned (Value.bool b)) (ah_true1 ?_)).symm <;> omega)
            · go_wp2
              go_ret
              refine ⟨?_, rfl⟩
              rw [← HRES.out]
              first
                | (refine (congrArg (fun b => Ending.returned (Value.bool b)) (ah_false ?_ ?_ ?_)).symm <;> omega)
                | (refine (congrArg (fun b => Ending.returned (Value.bool b)) (ah_dec ?_ ?_ ?_)).symm <;> omega)
                | (refine (congrArg (fun b => Ending.returned (Value.bool b)) (ah_true3 ?_)).symm <;> omega)
                | (refine (congrArg (fun b => Ending.returned (Value.bool b)) (ah_true2 ?_)).symm <;> omega)
                | (refine (congrArg (fun b => Ending.returned (Value.bool b)) (ah_true1 ?_)).symm <;> omega)
          · go_wp2
            go_ret
            refine ⟨?_, rfl⟩
            rw [← HRES.out]
            first
              | (refine (congrArg (fun b => Ending.returned (Value.bool b)) (ah_false ?_ ?_ ?_)).symm <;> omega)
              | (refine (congrArg (fun b => Ending.returned (Value.bool b)) (ah_dec ?_ ?_ ?_)).symm <;> omega)
              | (refine (congrArg (fun b => Ending.returned (Value.bool b)) (ah_true3 ?_)).symm <;> omega)
              | (refine (congrArg (fun b => Ending.returned (Value.bool b)) (ah_true2 ?_)).symm <;> omega)
              | (refine (congrArg (fun b => Ending.returned (Value.bool b)) (ah_true1 ?_)).symm <;> omega)
        · go_wp2
          go_ret
          refine ⟨?_, rfl⟩
          rw [← HRES.out]
          first
            | (refine (congrArg (fun b => Ending.returned (Value.bool b)) (ah_false ?_ ?_ ?_)).symm <;> omega)
            | (refine (congrArg (fun b => Ending.returned (Value.bool b)) (ah_dec ?_ ?_ ?_)).symm <;> omega)
            | (refine (congrArg (fun b => Ending.returned (Value.bool b)) (ah_true3 ?_)).symm <;> omega)
            | (refine (congrArg (fun b => Ending.returned (Value.bool b)) (ah_true2 ?_)).symm <;> omega)
            | (refine (congrArg (fun b => Ending.returned (Value.bool b)) (ah_true1 ?_)).symm <;> omega)
  · have h1g : ¬ r ≥ 0 := h1
    go_wp2_with fail
    refine (read_val A c L b x r _ H.out HN.out HR.out).mono ?_
    rintro q1 w1 ⟨rfl, rfl⟩
    go_wp2_with fail
    refine (write_val A c L a x wa _ H.out HN.out HWA.out).mono ?_
    rintro q1 w1 ⟨rfl, rfl⟩
    by_cases h3 : wa ≥ 0
    · have q3 := h3
      go_wp2_with fail
      refine (write_val A c L b x wb _ H.out HN.out HWB.out).mono ?_
      rintro q1 w1 ⟨rfl, rfl⟩
      by_cases h4 : wb ≥ 0
      · by_cases h5 : ca < cb
        · go_wp2
          go_ret
          refine ⟨?_, rfl⟩
          rw [← HRES.out]
          first
            | (refine (congrArg (fun b => Ending.returned (Value.bool b)) (ah_false ?_ ?_ ?_)).symm <;> omega)
            | (refine (congrArg (fun b => Ending.returned (Value.bool b)) (ah_dec ?_ ?_ ?_)).symm <;> omega)
            | (refine (congrArg (fun b => Ending.returned (Value.bool b)) (ah_true3 ?_)).symm <;> omega)
            | (refine (congrArg (fun b => Ending.returned (Value.bool b)) (ah_true2 ?_)).symm <;> omega)
            | (refine (congrArg (fun b => Ending.returned (Value.bool b)) (ah_true1 ?_)).symm <;> omega)
        · have q5 := h5
          go_wp2_with fail
          refine (read_val A c L a x s _ H.out HN.out HS.out).mono ?_
          rintro q1 w1 ⟨rfl, rfl⟩
          by_cases h6 : s ≥ 0
          · have q6 := h6
            go_wp2_with fail
            refine (write_val A c L b x wb _ H.out HN.out HWB.out).mono ?_
            rintro q1 w1 ⟨rfl, rfl⟩
            by_cases h7 : cb > s
            · go_wp2
              go_ret
              refine ⟨?_, rfl⟩
              rw [← HRES.out]
              first
                | (refine (congrArg (fun b => Ending.returned (Value.bool b)) (ah_false ?_ ?_ ?_)).symm <;> omega)
                | (refine (congrArg (fun b => Ending.returned (Value.bool b)) (ah_dec ?_ ?_ ?_)).symm <;> omega)
                | (refine (congrArg (fun b => Ending.returned (Value.bool b)) (ah_true3 ?_)).symm <;> omega)
                | (refine (congrArg (fun b => Ending.returned (Value.bool b)) (ah_true2 ?_)).symm <;> omega)
                | (refine (congrArg (fun b => Ending.returned (Value.bool b)) (ah_true1 ?_)).symm <;> omega)
            · go_wp2
              go_ret
              refine ⟨?_, rfl⟩
              rw [← HRES.out]
              first
                | (refine (congrArg (fun b => Ending.returned (Value.bool b)) (ah_false ?_ ?_ ?_)).symm <;> omega)
                | (refine (congrArg (fun b => Ending.returned (Value.bool b)) (ah_dec ?_ ?_ ?_)).symm <;> omega)
                | (refine (congrArg (fun b => Ending.returned (Value.bool b)) (ah_true3 ?_)).symm <;> omega)
                | (refine (congrArg (fun b => Ending.returned (Value.bool b)) (ah_true2 ?_)).symm <;> omega)
                | (refine (congrArg (fun b => Ending.returned (Value.bool b)) (ah_true1 ?_)).symm <;> omega)
          · go_wp2
            go_ret
            refine ⟨?_, rfl⟩
            rw [← HRES.out]
            first
              | (refine (congrArg (fun b => Ending.returned (Value.bool b)) (ah_false ?_ ?_ ?_)).symm <;> omega)
              | (refine (congrArg (fun b => Ending.returned (Value.bool b)) (ah_dec ?_ ?_ ?_)).symm <;> omega)
              | (refine (congrArg (fun b => Ending.returned (Value.bool b)) (ah_true3 ?_)).symm <;> omega)
              | (refine (congrArg (fun b => Ending.returned (Value.bool b)) (ah_true2 ?_)).symm <;> omega)
              | (refine (congrArg (fun b => Ending.returned (Value.bool b)) (ah_true1 ?_)).symm <;> omega)
      · have q4 := h4
        go_wp2_with fail
        refine (read_val A c L a x s _ H.out HN.out HS.out).mono ?_
        rintro q1 w1 ⟨rfl, rfl⟩
        by_cases h6 : s ≥ 0
        · have q6 := h6
          go_wp2_with fail
          refine (write_val A c L b x wb _ H.out HN.out HWB.out).mono ?_
          rintro q1 w1 ⟨rfl, rfl⟩
          go_wp2
          go_ret
          refine ⟨?_, rfl⟩
          rw [← HRES.out]
          first
            | (refine (congrArg (fun b => Ending.returned (Value.bool b)) (ah_false ?_ ?_ ?_)).symm <;> omega)
            | (refine (congrArg (fun b => Ending.returned (Value.bool b)) (ah_dec ?_ ?_ ?_)).symm <;> omega)
            | (refine (congrArg (fun b => Ending.returned (Value.bool b)) (ah_true3 ?_)).symm <;> omega)
            | (refine (congrArg (fun b => Ending.returned (Value.bool b)) (ah_true2 ?_)).symm <;> omega)
            | (refine (congrArg (fun b => Ending.returned (Value.bool b)) (ah_true1 ?_)).symm <;> omega)
        · go_wp2
          go_ret
          refine ⟨?_, rfl⟩
          rw [← HRES.out]
          first
            | (refine (congrArg (fun b => Ending.returned (Value.bool b)) (ah_false ?_ ?_ ?_)).symm <;> omega)
            | (refine (congrArg (fun b => Ending.returned (Value.bool b)) (ah_dec ?_ ?_ ?_)).symm <;> omega)
            | (refine (congrArg (fun b => Ending.returned (Value.bool b)) (ah_true3 ?_)).symm <;> omega)
            | (refine (congrArg (fun b => Ending.returned (Value.bool b)) (ah_true2 ?_)).symm <;> omega)
            | (refine (congrArg (fun b => Ending.returned (Value.bool b)) (ah_true1 ?_)).symm <;> omega)
    · have q3 := h3
      go_wp2_with fail
      refine (read_val A c L a x s _ H.out HN.out HS.out).mono ?_
      rintro q1 w1 ⟨rfl, rfl⟩
      by_cases h6 : s ≥ 0
      · have q6 := h6
        go_wp2_with fail
        refine (write_val A c L b x wb _ H.out HN.out HWB.out).mono ?_
        rintro q1 w1 ⟨rfl, rfl⟩
        by_cases h4 : wb ≥ 0
        · by_cases h7 : cb > s
          · go_wp2
            go_ret
            refine ⟨?_, rfl⟩
            rw [← HRES.out]
            first
              | (refine (congrArg (fun b => Ending.returned (Value.bool b)) (ah_false ?_ ?_ ?_)).symm <;> omega)
              | (refine (congrArg (fun b => Ending.returned (Value.bool b)) (ah_dec ?_ ?_ ?_)).symm <;> omega)
              | (refine (congrArg (fun b => Ending.returned (Value.bool b)) (ah_true3 ?_)).symm <;> omega)
              | (refine (congrArg (fun b => Ending.returned (Value.bool b)) (ah_true2 ?_)).symm <;> omega)
              | (refine (congrArg (fun b => Ending.returned (Value.bool b)) (ah_true1 ?_)).symm <;> omega)
          · go_wp2
            go_ret
            refine ⟨?_, rfl⟩
            rw [← HRES.out]
            first
              | (refine (congrArg (fun b => Ending.returned (Value.bool b)) (ah_false ?_ ?_ ?_)).symm <;> omega)
              | (refine (congrArg (fun b => Ending.returned (Value.bool b)) (ah_dec ?_ ?_ ?_)).symm <;> omega)
              | (refine (congrArg (fun b => Ending.returned (Value.bool b)) (ah_true3 ?_)).symm <;> omega)
              | (refine (congrArg (fun b => Ending.returned (Value.bool b)) (ah_true2 ?_)).symm <;> omega)
              | (refine (congrArg (fun b => Ending.returned (Value.bool b)) (ah_true1 ?_)).symm <;> omega)
        · go_wp2
          go_ret
          refine ⟨?_, rfl⟩
          rw [← HRES.out]
          first
            | (refine (congrArg (fun b => Ending.returned (Value.bool b)) (ah_false ?_ ?_ ?_)).symm <;> omega)
            | (refine (congrArg (fun b => Ending.returned (Value.bool b)) (ah_dec ?_ ?_ ?_)).symm <;> omega)
            | (refine (congrArg (fun b => Ending.returned (Value.bool b)) (ah_true3 ?_)).symm <;> omega)
            | (refine (congrArg (fun b => Ending.returned (Value.bool b)) (ah_true2 ?_)).symm <;> omega)
            | (refine (congrArg (fun b => Ending.returned (Value.bool b)) (ah_true1 ?_)).symm <;> omega)
      · go_wp2
        go_ret
        refine ⟨?_, rfl⟩
        rw [← HRES.out]
        first
          | (refine (congrArg (fun b => Ending.returned (Value.bool b)) (ah_false ?_ ?_ ?_)).symm <;> omega)
          | (refine (congrArg (fun b => Ending.returned (Value.bool b)) (ah_dec ?_ ?_ ?_)).symm <;> omega)
          | (refine (congrArg (fun b => Ending.returned (Value.bool b)) (ah_true3 ?_)).symm <;> omega)
          | (refine (congrArg (fun b => Ending.returned (Value.bool b)) (ah_true2 ?_)).symm <;> omega)
          | (refine (congrArg (fun b => Ending.returned (Value.bool b)) (ah_true1 ?_)).symm <;> omega)
end Go.Proofs.Ytcfdndppkpjleaa.Hi
