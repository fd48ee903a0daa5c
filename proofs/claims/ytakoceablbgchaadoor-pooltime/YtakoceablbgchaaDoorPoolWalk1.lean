/-
  Contracts of pool.taken, firstFree, New, End.
-/
import Derived.Test.YtakoceablbgchaaDoorPoolMath
import Derived.Test.YtakoceablbgchaaDoorTopoIns2
namespace Go.Proofs.YtakoceablbgchaaDoor
open Go.RowKit
attribute [local go_sem ↓] Go.wp_at_zero Go.wp_at_succ
theorem or_lt64 {x y : Nat} (hx : x < 18446744073709551616) (hy : y < 18446744073709551616) : x ||| y < 18446744073709551616 := by
  have := Nat.or_lt_two_pow (x := x) (y := y) (n := 64) (by simpa using hx) (by simpa using hy)
  simpa using this
set_option maxHeartbeats 1000000 in
set_option maxRecDepth 100000 in
theorem taken_any (p : Pl) (s : Int) (w : World) (hl : p.live < 18446744073709551616) (hd : p.done < 18446744073709551616) (h0 : -9223372036854775808 ≤ s) (h1 : s ≤ 9223372036854775807) :
    Calls Tryd.prog 53 #[.agg (poolA p), .int .i64 s] w fun e w' => e = .returned (.bool (Sm.has (p.live ||| p.done) s)) ∧ Below w.heap.size w w' := by
  have P0 := poolAt_new w p 31
  have hc1 := P0.live_
  have hc2 := P0.done_
  have hor := bits_or_u64_nat p.live p.done hl hd
  clear P0
  go_enter Tryd.func53, Tryd.ntmps53
  go_wp2_with fail
  refine (has_any (p.live ||| p.done) _ _ (or_lt64 hl hd) h0 h1).mono ?_
  rintro e w' ⟨rfl, rfl⟩
  go_wp2
  go_ret
  exact ⟨rfl, below_new _ _⟩
theorem taken_val (p : Pl) (s : Int) (b : Bool) (w : World) (hl : p.live < 18446744073709551616) (hd : p.done < 18446744073709551616) (h0 : -9223372036854775808 ≤ s) (h1 : s ≤ 9223372036854775807) (h : Sm.has (p.live ||| p.done) s = b) :
    Calls Tryd.prog 53 #[.agg (poolA p), .int .i64 s] w fun e w' => e = .returned (.bool b) ∧ Below w.heap.size w w' := by
  have := taken_any p s w hl hd h0 h1
  rw [h] at this; exact this
/-- the pool that was handed in lies in its box. -/
structure PSt (p : Pl) (t : Nat) (w wr : World) : Prop where
  po : PoolAt wr w.heap.size p t
  bel : Below w.heap.size w wr
theorem PSt.below {p : Pl} {t : Nat} {w W W' : World} (h : PSt p t w W) (hb : Below W.heap.size W W') : PSt p t w W' := ⟨h.po.below hb, h.bel.trans (hb.mono h.bel.size)⟩
theorem pst_first (p : Pl) (t : Nat) (w : World) : PSt p t w (w.alloc (.cells (poolA p) t)) := ⟨poolAt_new w p t, below_new _ _⟩
def ffV (p : Pl) : Int := match Po.ff p with | some s => (s : Int) | none => -1
def FfRel (p : Pl) (w : World) (i : Value) (wr : World) : Prop :=
  ∃ k : Nat, k ≤ 32 ∧ i = .int .i64 k ∧ (∀ j, j < k → Po.freeAt p j = false) ∧ PSt p 31 w wr
theorem free_big {p : Pl} {k : Nat} (h : ¬ ((k : Int) < p.size)) : Po.freeAt p k = false := by unfold Po.freeAt; rw [decide_eq_false h]; rfl
theorem free_has {p : Pl} {k : Nat} (hl : p.live < 18446744073709551616) (hd : p.done < 18446744073709551616) (h : (k : Int) < p.size) : Po.freeAt p k = !Sm.has (p.live ||| p.done) (k : Nat) := by
  unfold Po.freeAt; rw [decide_eq_true h, Sm.has_nat _ (or_lt64 hl hd)]; rfl
set_option maxHeartbeats 2000000 in
set_option maxRecDepth 100000 in
theorem firstFree_any (p : Pl) (w : World) (hp : p.Ok) :
    Calls Tryd.prog 48 #[.agg (poolA p)] w fun e w' => e = .returned (.int .i64 (ffV p)) ∧ Below w.heap.size w w' := by
  have H0 := Lib.hid (pst_first p 31 w)
  have HP := Lib.hid hp
  clear hp
  go_enter Tryd.func48, Tryd.ntmps48
  go_wp2
  go_loopw [4] (FfRel p w) (fun i _ => 32 - (intOf i).toNat)
  case atStart => exact ⟨0, by omega, rfl, fun j hj => by omega, H0.out⟩
  case round =>
    obtain ⟨k, hk, rfl, hfr, hst⟩ := hrel
    have HF := Lib.hid hfr
    have HS := Lib.hid hst
    clear hfr hst
    by_cases hlt : k < 32
    · have hc := HS.out.po.size_
      by_cases hsz : (k : Int) < p.size
      · cases hfa : Po.freeAt p k
        · have e : Sm.has (p.live ||| p.done) (k : Nat) = true := by rw [free_has HP.out.live HP.out.done hsz] at hfa; simpa using hfa
          have E := Lib.hid e
          have HFA := Lib.hid hfa
          clear e hfa
          go_wp2_with (refine load_pool rfl 31 (.tmp 1) rfl w.heap.size p 31 rfl _ HS.out.po Tryd.underlying31 rfl pool_info ?_)
          refine (taken_val p (k : Nat) true _ HP.out.live HP.out.done (by omega) (by omega) E.out).mono ?_
          rintro e w1 ⟨rfl, hb1⟩
          have HS1 := Lib.hid (HS.out.below hb1)
          clear hb1 HS hc
          go_wp2
          refine ⟨⟨k + 1, by omega, by go_num, fun j hj => ?_, HS1.out⟩, by simp [intOf]; omega⟩
          rcases Nat.lt_or_ge j k with h | h
          · exact HF.out j h
          · obtain rfl : j = k := by omega
            exact HFA.out
        · have e : Sm.has (p.live ||| p.done) (k : Nat) = false := by rw [free_has HP.out.live HP.out.done hsz] at hfa; simpa using hfa
          have E := Lib.hid e
          have HV := Lib.hid (show ffV p = (k : Int) by unfold ffV; rw [Po.ff_some hlt hfa HF.out])
          clear e hfa
          go_wp2_with (refine load_pool rfl 31 (.tmp 1) rfl w.heap.size p 31 rfl _ HS.out.po Tryd.underlying31 rfl pool_info ?_)
          refine (taken_val p (k : Nat) false _ HP.out.live HP.out.done (by omega) (by omega) E.out).mono ?_
          rintro e w1 ⟨rfl, hb1⟩
          have HS1 := Lib.hid (HS.out.below hb1)
          clear hb1 HS hc
          go_wp2
          go_ret
          rw [HV.out]
          exact ⟨rfl, HS1.out.bel⟩
      · go_wp2
        refine ⟨⟨k + 1, by omega, by go_num, fun j hj => ?_, HS.out⟩, by simp [intOf]; omega⟩
        rcases Nat.lt_or_ge j k with h | h
        · exact HF.out j h
        · obtain rfl : j = k := by omega
          exact free_big hsz
    · obtain rfl : k = 32 := by omega
      have HV := Lib.hid (show ffV p = -1 by unfold ffV; rw [Po.ff_none HF.out])
      go_wp2
      go_ret
      rw [HV.out]
      exact ⟨rfl, HS.out.bel⟩
/- New -/
theorem fold_sets (off : Nat) : ∀ (vs : List Value) (k : Nat) (cs : Array Value), off + k + vs.length ≤ cs.size →
    ((vs.zipIdx k).foldl (fun (cs : Array Value) (x : Value × Nat) => cs.setIfInBounds (off + x.2) x.1) cs).size = cs.size ∧
    ∀ i, ((vs.zipIdx k).foldl (fun (cs : Array Value) (x : Value × Nat) => cs.setIfInBounds (off + x.2) x.1) cs)[i]? = if off + k ≤ i ∧ i < off + k + vs.length then vs[i - (off + k)]? else cs[i]?
  | [], k, cs, _ => ⟨rfl, fun i => by rw [if_neg (by simp), List.zipIdx_nil, List.foldl_nil]⟩
  | v :: r, k, cs, h => by
    have ih := fold_sets off r (k + 1) (cs.setIfInBounds (off + k) v) (by simp at h ⊢; omega)
    rw [List.zipIdx_cons, List.foldl_cons]
    refine ⟨by rw [ih.1, Array.size_setIfInBounds], fun i => ?_⟩
    rw [ih.2 i, Array.getElem?_setIfInBounds]
    simp only [List.length_cons] at h ⊢
    by_cases e : off + k = i
    · subst e
      rw [if_neg (by omega), if_pos rfl, if_pos (by omega), if_pos (by omega), Nat.sub_self]; rfl
    · by_cases c : off + (k + 1) ≤ i ∧ i < off + (k + 1) + r.length
      · rw [if_pos c, if_pos (by omega), show i - (off + k) = (i - (off + (k + 1))) + 1 by omega, List.getElem?_cons_succ]
      · rw [if_neg c, if_neg e, if_neg (by omega)]
def setsAt (off : Nat) (vs cs : Array Value) : Array Value := vs.zipIdx.foldl (fun cs (c, j) => cs.setIfInBounds (off + j) c) cs
theorem sets_arr (off : Nat) (vs cs : Array Value) (h : off + vs.size ≤ cs.size) :
    (setsAt off vs cs).size = cs.size ∧ ∀ i, (setsAt off vs cs)[i]? = if off ≤ i ∧ i < off + vs.size then vs[i - off]? else cs[i]? := by
  have := fold_sets off vs.toList 0 cs (by simpa using h)
  unfold setsAt
  rw [← Array.foldl_toList, Array.toList_zipIdx]
  simpa using this
theorem sets_pool {p q : Pl} {vs : Array Value} {off : Nat} (hb : off + vs.size ≤ 100) (hin : ∀ j, j < vs.size → vs[j]? = some (cellOf q (off + j))) (hout : ∀ i, i < 100 → ¬ (off ≤ i ∧ i < off + vs.size) → cellOf p i = cellOf q i) :
    setsAt off vs (poolA p) = poolA q := by
  have h := sets_arr off vs (poolA p) (by rw [poolA_size]; exact hb)
  refine poolA_eq (by rw [h.1, poolA_size]) fun i hi => ?_
  rw [h.2 i]
  by_cases c : off ≤ i ∧ i < off + vs.size
  · rw [if_pos c, hin (i - off) (by omega), show off + (i - off) = i by omega]
  · rw [if_neg c, poolA_get p i hi, hout i hi c]
theorem fill_step (place : Nat → Option (Nat × Nat)) (cells : Array Value) (i : Nat) (v : Value) (rest : List (Nat × Value)) (off size : Nat) (h : place i = some (off, size)) (hs : v.cells.size = size) (hb : off + size ≤ cells.size) :
    Instr.fill place cells ((i, v) :: rest) = Instr.fill place (setsAt off v.cells cells) rest := by
  rw [Instr.fill, h]
  simp only
  rw [if_neg (by simp [hs]; omega)]
  rfl
def plc : List (Nat × Nat) := [(0, 1), (1, 32), (33, 32), (65, 1), (66, 1), (67, 32), (99, 1)]
theorem fill_size (p : Pl) (v : Int) (rest : List (Nat × Value)) : Instr.fill (fun x => plc[x]?) (poolA p) ((0, .int .i64 v) :: rest) = Instr.fill (fun x => plc[x]?) (poolA { p with size := v }) rest := by
  rw [fill_step _ _ _ _ _ 0 1 rfl rfl (by rw [poolA_size]; omega)]
  refine congrArg (fun c => Instr.fill (fun x => plc[x]?) c rest) ?_
  refine sets_pool (by simp [Value.cells]) (fun j hj => ?_) (fun i hi hc => ?_)
  · obtain rfl : j = 0 := by simp [Value.cells] at hj; omega
    rfl
  · simp only [Value.cells, List.size_toArray, List.length_cons, List.length_nil] at hc
    exact cell_up hi (fun e => by omega) (fun _ _ _ => rfl) (fun _ _ _ => rfl) (fun _ => rfl) (fun _ => rfl) (fun _ _ _ => rfl) (fun _ => rfl)
theorem fill_m (p : Pl) (v : Mm.Gr) (rest : List (Nat × Value)) : Instr.fill (fun x => plc[x]?) (poolA p) ((1, .agg (matA v)) :: rest) = Instr.fill (fun x => plc[x]?) (poolA { p with m := v }) rest := by
  rw [fill_step _ _ _ (.agg (matA v)) _ 1 32 rfl (matA_size v) (by rw [poolA_size]; omega)]
  refine congrArg (fun c => Instr.fill (fun x => plc[x]?) c rest) ?_
  have e : (Value.agg (matA v)).cells = matA v := rfl
  rw [e]
  refine sets_pool (by rw [matA_size]; omega) (fun j hj => ?_) (fun i hi hc => ?_)
  · rw [matA_size] at hj
    rw [matA_get v j hj, cell_m _ j hj]
  · rw [matA_size] at hc
    exact cell_up hi (fun _ => rfl) (fun j hj e => by omega) (fun _ _ _ => rfl) (fun _ => rfl) (fun _ => rfl) (fun _ _ _ => rfl) (fun _ => rfl)
theorem fill_o (p : Pl) (v : Od.O) (rest : List (Nat × Value)) : Instr.fill (fun x => plc[x]?) (poolA p) ((2, .agg (ordA v)) :: rest) = Instr.fill (fun x => plc[x]?) (poolA { p with o := v }) rest := by
  rw [fill_step _ _ _ (.agg (ordA v)) _ 33 32 rfl (ordA_size v) (by rw [poolA_size]; omega)]
  refine congrArg (fun c => Instr.fill (fun x => plc[x]?) c rest) ?_
  have e : (Value.agg (ordA v)).cells = ordA v := rfl
  rw [e]
  refine sets_pool (by rw [ordA_size]; omega) (fun j hj => ?_) (fun i hi hc => ?_)
  · rw [ordA_size] at hj
    rw [ordA_get v j hj, cell_o _ j hj]
  · rw [ordA_size] at hc
    exact cell_up hi (fun _ => rfl) (fun _ _ _ => rfl) (fun j hj e => by omega) (fun _ => rfl) (fun _ => rfl) (fun _ _ _ => rfl) (fun _ => rfl)
theorem fill_live (p : Pl) (v : Nat) (rest : List (Nat × Value)) : Instr.fill (fun x => plc[x]?) (poolA p) ((3, .int .u64 (v : Nat)) :: rest) = Instr.fill (fun x => plc[x]?) (poolA { p with live := v }) rest := by
  rw [fill_step _ _ _ _ _ 65 1 rfl rfl (by rw [poolA_size]; omega)]
  refine congrArg (fun c => Instr.fill (fun x => plc[x]?) c rest) ?_
  refine sets_pool (by simp [Value.cells]) (fun j hj => ?_) (fun i hi hc => ?_)
  · obtain rfl : j = 0 := by simp [Value.cells] at hj; omega
    rfl
  · simp only [Value.cells, List.size_toArray, List.length_cons, List.length_nil] at hc
    exact cell_up hi (fun _ => rfl) (fun _ _ _ => rfl) (fun _ _ _ => rfl) (fun e => by omega) (fun _ => rfl) (fun _ _ _ => rfl) (fun _ => rfl)
theorem fill_done (p : Pl) (v : Nat) (rest : List (Nat × Value)) : Instr.fill (fun x => plc[x]?) (poolA p) ((4, .int .u64 (v : Nat)) :: rest) = Instr.fill (fun x => plc[x]?) (poolA { p with done := v }) rest := by
  rw [fill_step _ _ _ _ _ 66 1 rfl rfl (by rw [poolA_size]; omega)]
  refine congrArg (fun c => Instr.fill (fun x => plc[x]?) c rest) ?_
  refine sets_pool (by simp [Value.cells]) (fun j hj => ?_) (fun i hi hc => ?_)
  · obtain rfl : j = 0 := by simp [Value.cells] at hj; omega
    rfl
  · simp only [Value.cells, List.size_toArray, List.length_cons, List.length_nil] at hc
    exact cell_up hi (fun _ => rfl) (fun _ _ _ => rfl) (fun _ _ _ => rfl) (fun _ => rfl) (fun e => by omega) (fun _ _ _ => rfl) (fun _ => rfl)
theorem fill_ids (p : Pl) (v : Od.O) (rest : List (Nat × Value)) : Instr.fill (fun x => plc[x]?) (poolA p) ((5, .agg (ordA v)) :: rest) = Instr.fill (fun x => plc[x]?) (poolA { p with ids := v }) rest := by
  rw [fill_step _ _ _ (.agg (ordA v)) _ 67 32 rfl (ordA_size v) (by rw [poolA_size]; omega)]
  refine congrArg (fun c => Instr.fill (fun x => plc[x]?) c rest) ?_
  have e : (Value.agg (ordA v)).cells = ordA v := rfl
  rw [e]
  refine sets_pool (by rw [ordA_size]; omega) (fun j hj => ?_) (fun i hi hc => ?_)
  · rw [ordA_size] at hj
    rw [ordA_get v j hj, cell_ids _ j hj]
  · rw [ordA_size] at hc
    exact cell_up hi (fun _ => rfl) (fun _ _ _ => rfl) (fun _ _ _ => rfl) (fun _ => rfl) (fun _ => rfl) (fun j hj e => by omega) (fun _ => rfl)
theorem fill_count (p : Pl) (v : Int) (rest : List (Nat × Value)) : Instr.fill (fun x => plc[x]?) (poolA p) ((6, .int .i64 v) :: rest) = Instr.fill (fun x => plc[x]?) (poolA { p with count := v }) rest := by
  rw [fill_step _ _ _ _ _ 99 1 rfl rfl (by rw [poolA_size]; omega)]
  refine congrArg (fun c => Instr.fill (fun x => plc[x]?) c rest) ?_
  refine sets_pool (by simp [Value.cells]) (fun j hj => ?_) (fun i hi hc => ?_)
  · obtain rfl : j = 0 := by simp [Value.cells] at hj; omega
    rfl
  · simp only [Value.cells, List.size_toArray, List.length_cons, List.length_nil] at hc
    exact cell_up hi (fun _ => rfl) (fun _ _ _ => rfl) (fun _ _ _ => rfl) (fun _ => rfl) (fun _ => rfl) (fun _ _ _ => rfl) (fun e => by omega)
theorem sz (w : World) {t n : Nat} (h : (Tryd.prog.info? t).map (·.size) = some n) : (sizeOf t).run Tryd.prog w = .ok n w := by
  cases hq : Tryd.prog.info? t with
  | none => simp [hq] at h
  | some i =>
    have hs : i.size = n := by simpa [hq] using h
    simp [sizeOf, typeInfo, hq, hs]
theorem inf_int : (Tryd.prog.info? 3).map (·.size) = some 1 := by kernel_rfl
theorem inf_set : (Tryd.prog.info? 25).map (·.size) = some 1 := by kernel_rfl
theorem inf_u64 : (Tryd.prog.info? 24).map (·.size) = some 1 := by kernel_rfl
theorem ints_info : (Tryd.prog.info? 28).map (·.size) = some 32 := by kernel_rfl
theorem build_run (parts : Array (Nat × Value)) (q : Pl) (w : World) (h : Instr.fill (fun x => plc[x]?) (poolA zeroP) parts.toList = some (poolA q)) : (Instr.build 31 parts).run Tryd.prog w = .ok (.agg (poolA q)) w := by
  have h1 := fun w => sz w inf_int
  have h2 := fun w => sz w mat_info
  have h3 := fun w => sz w ord_info
  have h4 := fun w => sz w inf_set
  have h6 := fun w => sz w ints_info
  have hz := (zero_of_info zero_pool_info).1
  have hc : (Value.agg (poolA zeroP)).cells = poolA zeroP := rfl
  unfold Instr.build
  simp only [Sem.run_bind, hz, run_underlying Tryd.underlying31, Result.andThen_ok]
  unfold plc at h
  simp [h1, h2, h3, h4, h6, hc, h]
theorem rbuild_run (parts : Array (Nat × Value)) (q : Pl) (w : World) (h : Instr.fill (fun x => plc[x]?) (poolA zeroP) parts.toList = some (poolA q)) : (Instr.build 38 parts).run Tryd.prog w = .ok (.agg (poolA q)) w := by
  have h1 := fun w => sz w inf_int
  have h2 := fun w => sz w rmat_info
  have h3 := fun w => sz w rord_info
  have h4 := fun w => sz w inf_u64
  have h6 := fun w => sz w ints_info
  have hz := (zero_of_info zero_rpool_info).1
  have hc : (Value.agg (poolA zeroP)).cells = poolA zeroP := rfl
  unfold Instr.build
  simp only [Sem.run_bind, hz, run_underlying Tryd.underlying38, Result.andThen_ok]
  unfold plc at h
  simp [h1, h2, h3, h4, h6, hc, h]
theorem build_none (w : World) : (Instr.build 31 #[]).run Tryd.prog w = .ok (.agg (poolA zeroP)) w := build_run _ _ _ rfl
theorem rbuild_none (w : World) : (Instr.build 38 #[]).run Tryd.prog w = .ok (.agg (poolA zeroP)) w := rbuild_run _ _ _ rfl
theorem build_new (n : Int) (w : World) : (Instr.build 31 #[(0, .int .i64 n), (2, .agg (ordA Od.newO))]).run Tryd.prog w = .ok (.agg (poolA (Po.newP n))) w :=
  build_run _ _ _ (by show Instr.fill _ _ [_, _] = _; rw [fill_size, fill_o]; rfl)
theorem rbuild_new (n : Int) (w : World) : (Instr.build 38 #[(0, .int .i64 n), (2, .agg (ordA Od.newO))]).run Tryd.prog w = .ok (.agg (poolA (Po.newP n))) w :=
  rbuild_run _ _ _ (by show Instr.fill _ _ [_, _] = _; rw [fill_size, fill_o]; rfl)
theorem rbuild_all (p : Pl) (w : World) : (Instr.build 38 #[(0, .int .i64 p.size), (1, .agg (matA p.m)), (2, .agg (ordA p.o)), (3, .int .u64 (p.live : Nat)), (4, .int .u64 (p.done : Nat)), (5, .agg (ordA p.ids)), (6, .int .i64 p.count)]).run Tryd.prog w = .ok (.agg (poolA p)) w :=
  rbuild_run _ _ _ (by show Instr.fill _ _ [_, _, _, _, _, _, _] = _; rw [fill_size, fill_m, fill_o, fill_live, fill_done, fill_ids, fill_count]; rfl)
end Go.Proofs.YtakoceablbgchaaDoor
