/-
  Contracts of pool.taken, firstFree, New, End.
  Contracts of pool.New, pool.End.
  The contract of pool.Edge.
  The contract of pool.Edge, where the edge is there then.
  The contract of pool.Begin.
  The contract of pool.firstToGo.
  The contract of pool.Collect.
-/
import Derived.Test.YtfdfiiocccafkaaGreatDoorJPool
import Derived.Test.YtfdfiiocccafkaaGreatDoorJIns
namespace Go.Proofs.YtfdfiiocccafkaaGreatDoor
open Go.RowKit
attribute [local go_sem ↓] Go.wp_at_zero Go.wp_at_succ
theorem or_lt64 {x y : Nat} (hx : x < 18446744073709551616) (hy : y < 18446744073709551616) : x ||| y < 18446744073709551616 := by
  have := Nat.or_lt_two_pow (x := x) (y := y) (n := 64) (by simpa using hx) (by simpa using hy)
  simpa using this
set_option maxHeartbeats 1000000 in
set_option maxRecDepth 100000 in
theorem taken_any (p : Pl) (s : Int) (w : World) (hl : p.live < 18446744073709551616) (hd : p.done < 18446744073709551616) (h0 : -9223372036854775808 ≤ s) (h1 : s ≤ 9223372036854775807) :
    Calls Tryz.prog 146 #[.agg (poolA p), .int .i64 s] w fun e w' => e = .returned (.bool (Sm.has (p.live ||| p.done) s)) ∧ Below w.heap.size w w' := by
  have P0 := poolAt_new w p 87
  have hc1 := P0.live_
  have hc2 := P0.done_
  have hor := bits_or_u64_nat p.live p.done hl hd
  clear P0
  go_enter Tryz.func146, Tryz.ntmps146
  go_wp2_with fail
  refine (has_any (p.live ||| p.done) _ _ (or_lt64 hl hd) h0 h1).mono ?_
  rintro e w' ⟨rfl, rfl⟩
  go_wp2
  go_ret
  exact ⟨rfl, below_new _ _⟩
theorem taken_val (p : Pl) (s : Int) (b : Bool) (w : World) (hl : p.live < 18446744073709551616) (hd : p.done < 18446744073709551616) (h0 : -9223372036854775808 ≤ s) (h1 : s ≤ 9223372036854775807) (h : Sm.has (p.live ||| p.done) s = b) :
    Calls Tryz.prog 146 #[.agg (poolA p), .int .i64 s] w fun e w' => e = .returned (.bool b) ∧ Below w.heap.size w w' := by
  have := taken_any p s w hl hd h0 h1
  rw [h] at this; exact this
/-- the pool that was handed in lies in its box. -/
structure PSt (p : Pl) (t : Nat) (w wr : World) : Prop where
  po : PoolAt wr w.heap.size p t
  bel : Below w.heap.size w wr
theorem PSt.below {p : Pl} {t : Nat} {w W W' : World} (h : PSt p t w W) (hb : Below W.heap.size W W') : PSt p t w W' := ⟨h.po.below hb, h.bel.trans (hb.mono h.bel.size)⟩
theorem pst_first (p : Pl) (t : Nat) (w : World) : PSt p t w (w.alloc (.cells (poolA p) t)) := ⟨poolAt_new w p t, below_new _ _⟩
def ffV (p : Pl) : Int := match Po.ff p with | some s => (s : Int) | none => -1
def FfRel (p : Pl) (w : World) (i : Value) (wr : World) : Prop :=
  ∃ k : Nat, k ≤ 32 ∧ i = .int .i64 k ∧ (∀ j, j < k → Po.freeAt p j = false) ∧ PSt p 87 w wr
theorem free_big {p : Pl} {k : Nat} (h : ¬ ((k : Int) < p.size)) : Po.freeAt p k = false := by unfold Po.freeAt; rw [decide_eq_false h]; rfl
theorem free_has {p : Pl} {k : Nat} (hl : p.live < 18446744073709551616) (hd : p.done < 18446744073709551616) (h : (k : Int) < p.size) : Po.freeAt p k = !Sm.has (p.live ||| p.done) (k : Nat) := by
  unfold Po.freeAt; rw [decide_eq_true h, Sm.has_nat _ (or_lt64 hl hd)]; rfl
set_option maxHeartbeats 2000000 in
set_option maxRecDepth 100000 in
theorem firstFree_any (p : Pl) (w : World) (hp : p.Ok) :
    Calls Tryz.prog 115 #[.agg (poolA p)] w fun e w' => e = .returned (.int .i64 (ffV p)) ∧ Below w.heap.size w w' := by
  have H0 := Lib.hid (pst_first p 87 w)
  have HP := Lib.hid hp
  clear hp
  go_enter Tryz.func115, Tryz.ntmps115
  go_wp2
  go_loopw [4] (FfRel p w) (fun i _ => 32 - (intOf i).toNat)
  case atStart => exact ⟨0, by omega, rfl, fun j hj => by omega, H0.out⟩
  case round =>
    obtain ⟨k, hk, rfl, hfr, hst⟩ := hrel
    have HF := Lib.hid hfr
    have HS := Lib.hid hst
    clear hfr hst
    by_cases hlt : k < 32
    · have hc := HS.out.po.size_
      by_cases hsz : (k : Int) < p.size
      · cases hfa : Po.freeAt p k
        · have e : Sm.has (p.live ||| p.done) (k : Nat) = true := by rw [free_has HP.out.live HP.out.done hsz] at hfa; simpa using hfa
          have E := Lib.hid e
          have HFA := Lib.hid hfa
          clear e hfa
          go_wp2_with (refine load_pool rfl 87 (.tmp 1) rfl w.heap.size p 87 rfl _ HS.out.po Tryz.underlying87 rfl pool_info ?_)
          refine (taken_val p (k : Nat) true _ HP.out.live HP.out.done (by omega) (by omega) E.out).mono ?_
          rintro e w1 ⟨rfl, hb1⟩
          have HS1 := Lib.hid (HS.out.below hb1)
          clear hb1 HS hc
          go_wp2
          refine ⟨⟨k + 1, by omega, by go_num, fun j hj => ?_, HS1.out⟩, by simp [intOf]; omega⟩
          rcases Nat.lt_or_ge j k with h | h
          · exact HF.out j h
          · obtain rfl : j = k := by omega
            exact HFA.out
        · have e : Sm.has (p.live ||| p.done) (k : Nat) = false := by rw [free_has HP.out.live HP.out.done hsz] at hfa; simpa using hfa
          have E := Lib.hid e
          have HV := Lib.hid (show ffV p = (k : Int) by unfold ffV; rw [Po.ff_some hlt hfa HF.out])
          clear e hfa
          go_wp2_with (refine load_pool rfl 87 (.tmp 1) rfl w.heap.size p 87 rfl _ HS.out.po Tryz.underlying87 rfl pool_info ?_)
          refine (taken_val p (k : Nat) false _ HP.out.live HP.out.done (by omega) (by omega) E.out).mono ?_
          rintro e w1 ⟨rfl, hb1⟩
          have HS1 := Lib.hid (HS.out.below hb1)
          clear hb1 HS hc
          go_wp2
          go_ret
          rw [HV.out]
          exact ⟨rfl, HS1.out.bel⟩
      · go_wp2
        refine ⟨⟨k + 1, by omega, by go_num, fun j hj => ?_, HS.out⟩, by simp [intOf]; omega⟩
        rcases Nat.lt_or_ge j k with h | h
        · exact HF.out j h
        · obtain rfl : j = k := by omega
          exact free_big hsz
    · obtain rfl : k = 32 := by omega
      have HV := Lib.hid (show ffV p = -1 by unfold ffV; rw [Po.ff_none HF.out])
      go_wp2
      go_ret
      rw [HV.out]
      exact ⟨rfl, HS.out.bel⟩
/- New -/
theorem fold_sets (off : Nat) : ∀ (vs : List Value) (k : Nat) (cs : Array Value), off + k + vs.length ≤ cs.size →
    ((vs.zipIdx k).foldl (fun (cs : Array Value) (x : Value × Nat) => cs.setIfInBounds (off + x.2) x.1) cs).size = cs.size ∧
    ∀ i, ((vs.zipIdx k).foldl (fun (cs : Array Value) (x : Value × Nat) => cs.setIfInBounds (off + x.2) x.1) cs)[i]? = if off + k ≤ i ∧ i < off + k + vs.length then vs[i - (off + k)]? else cs[i]?
  | [], k, cs, _ => ⟨rfl, fun i => by rw [if_neg (by simp), List.zipIdx_nil, List.foldl_nil]⟩
  | v :: r, k, cs, h => by
    have ih := fold_sets off r (k + 1) (cs.setIfInBounds (off + k) v) (by simp at h ⊢; omega)
    rw [List.zipIdx_cons, List.foldl_cons]
    refine ⟨by rw [ih.1, Array.size_setIfInBounds], fun i => ?_⟩
    rw [ih.2 i, Array.getElem?_setIfInBounds]
    simp only [List.length_cons] at h ⊢
    by_cases e : off + k = i
    · subst e
      rw [if_neg (by omega), if_pos rfl, if_pos (by omega), if_pos (by omega), Nat.sub_self]; rfl
    · by_cases c : off + (k + 1) ≤ i ∧ i < off + (k + 1) + r.length
      · rw [if_pos c, if_pos (by omega), show i - (off + k) = (i - (off + (k + 1))) + 1 by omega, List.getElem?_cons_succ]
      · rw [if_neg c, if_neg e, if_neg (by omega)]
def setsAt (off : Nat) (vs cs : Array Value) : Array Value := vs.zipIdx.foldl (fun cs (c, j) => cs.setIfInBounds (off + j) c) cs
theorem sets_arr (off : Nat) (vs cs : Array Value) (h : off + vs.size ≤ cs.size) :
    (setsAt off vs cs).size = cs.size ∧ ∀ i, (setsAt off vs cs)[i]? = if off ≤ i ∧ i < off + vs.size then vs[i - off]? else cs[i]? := by
  have := fold_sets off vs.toList 0 cs (by simpa using h)
  unfold setsAt
  rw [← Array.foldl_toList, Array.toList_zipIdx]
  simpa using this
theorem sets_pool {p q : Pl} {vs : Array Value} {off : Nat} (hb : off + vs.size ≤ 100) (hin : ∀ j, j < vs.size → vs[j]? = some (cellOf q (off + j))) (hout : ∀ i, i < 100 → ¬ (off ≤ i ∧ i < off + vs.size) → cellOf p i = cellOf q i) :
    setsAt off vs (poolA p) = poolA q := by
  have h := sets_arr off vs (poolA p) (by rw [poolA_size]; exact hb)
  refine poolA_eq (by rw [h.1, poolA_size]) fun i hi => ?_
  rw [h.2 i]
  by_cases c : off ≤ i ∧ i < off + vs.size
  · rw [if_pos c, hin (i - off) (by omega), show off + (i - off) = i by omega]
  · rw [if_neg c, poolA_get p i hi, hout i hi c]
theorem fill_step (place : Nat → Option (Nat × Nat)) (cells : Array Value) (i : Nat) (v : Value) (rest : List (Nat × Value)) (off size : Nat) (h : place i = some (off, size)) (hs : v.cells.size = size) (hb : off + size ≤ cells.size) :
    Instr.fill place cells ((i, v) :: rest) = Instr.fill place (setsAt off v.cells cells) rest := by
  rw [Instr.fill, h]
  simp only
  rw [if_neg (by simp [hs]; omega)]
  rfl
def plc : List (Nat × Nat) := [(0, 1), (1, 32), (33, 32), (65, 1), (66, 1), (67, 32), (99, 1)]
theorem fill_size (p : Pl) (v : Int) (rest : List (Nat × Value)) : Instr.fill (fun x => plc[x]?) (poolA p) ((0, .int .i64 v) :: rest) = Instr.fill (fun x => plc[x]?) (poolA { p with size := v }) rest := by
  rw [fill_step _ _ _ _ _ 0 1 rfl rfl (by rw [poolA_size]; omega)]
  refine congrArg (fun c => Instr.fill (fun x => plc[x]?) c rest) ?_
  refine sets_pool (by simp [Value.cells]) (fun j hj => ?_) (fun i hi hc => ?_)
  · obtain rfl : j = 0 := by simp [Value.cells] at hj; omega
    rfl
  · simp only [Value.cells, List.size_toArray, List.length_cons, List.length_nil] at hc
    exact cell_up hi (fun e => by omega) (fun _ _ _ => rfl) (fun _ _ _ => rfl) (fun _ => rfl) (fun _ => rfl) (fun _ _ _ => rfl) (fun _ => rfl)
theorem fill_m (p : Pl) (v : Mm.Gr) (rest : List (Nat × Value)) : Instr.fill (fun x => plc[x]?) (poolA p) ((1, .agg (matA v)) :: rest) = Instr.fill (fun x => plc[x]?) (poolA { p with m := v }) rest := by
  rw [fill_step _ _ _ (.agg (matA v)) _ 1 32 rfl (matA_size v) (by rw [poolA_size]; omega)]
  refine congrArg (fun c => Instr.fill (fun x => plc[x]?) c rest) ?_
  have e : (Value.agg (matA v)).cells = matA v := rfl
  rw [e]
  refine sets_pool (by rw [matA_size]; omega) (fun j hj => ?_) (fun i hi hc => ?_)
  · rw [matA_size] at hj
    rw [matA_get v j hj, cell_m _ j hj]
  · rw [matA_size] at hc
    exact cell_up hi (fun _ => rfl) (fun j hj e => by omega) (fun _ _ _ => rfl) (fun _ => rfl) (fun _ => rfl) (fun _ _ _ => rfl) (fun _ => rfl)
theorem fill_o (p : Pl) (v : Od.O) (rest : List (Nat × Value)) : Instr.fill (fun x => plc[x]?) (poolA p) ((2, .agg (ordA v)) :: rest) = Instr.fill (fun x => plc[x]?) (poolA { p with o := v }) rest := by
  rw [fill_step _ _ _ (.agg (ordA v)) _ 33 32 rfl (ordA_size v) (by rw [poolA_size]; omega)]
  refine congrArg (fun c => Instr.fill (fun x => plc[x]?) c rest) ?_
  have e : (Value.agg (ordA v)).cells = ordA v := rfl
  rw [e]
  refine sets_pool (by rw [ordA_size]; omega) (fun j hj => ?_) (fun i hi hc => ?_)
  · rw [ordA_size] at hj
    rw [ordA_get v j hj, cell_o _ j hj]
  · rw [ordA_size] at hc
    exact cell_up hi (fun _ => rfl) (fun _ _ _ => rfl) (fun j hj e => by omega) (fun _ => rfl) (fun _ => rfl) (fun _ _ _ => rfl) (fun _ => rfl)
theorem fill_live (p : Pl) (v : Nat) (rest : List (Nat × Value)) : Instr.fill (fun x => plc[x]?) (poolA p) ((3, .int .u64 (v : Nat)) :: rest) = Instr.fill (fun x => plc[x]?) (poolA { p with live := v }) rest := by
  rw [fill_step _ _ _ _ _ 65 1 rfl rfl (by rw [poolA_size]; omega)]
  refine congrArg (fun c => Instr.fill (fun x => plc[x]?) c rest) ?_
  refine sets_pool (by simp [Value.cells]) (fun j hj => ?_) (fun i hi hc => ?_)
  · obtain rfl : j = 0 := by simp [Value.cells] at hj; omega
    rfl
  · simp only [Value.cells, List.size_toArray, List.length_cons, List.length_nil] at hc
    exact cell_up hi (fun _ => rfl) (fun _ _ _ => rfl) (fun _ _ _ => rfl) (fun e => by omega) (fun _ => rfl) (fun _ _ _ => rfl) (fun _ => rfl)
theorem fill_done (p : Pl) (v : Nat) (rest : List (Nat × Value)) : Instr.fill (fun x => plc[x]?) (poolA p) ((4, .int .u64 (v : Nat)) :: rest) = Instr.fill (fun x => plc[x]?) (poolA { p with done := v }) rest := by
  rw [fill_step _ _ _ _ _ 66 1 rfl rfl (by rw [poolA_size]; omega)]
  refine congrArg (fun c => Instr.fill (fun x => plc[x]?) c rest) ?_
  refine sets_pool (by simp [Value.cells]) (fun j hj => ?_) (fun i hi hc => ?_)
  · obtain rfl : j = 0 := by simp [Value.cells] at hj; omega
    rfl
  · simp only [Value.cells, List.size_toArray, List.length_cons, List.length_nil] at hc
    exact cell_up hi (fun _ => rfl) (fun _ _ _ => rfl) (fun _ _ _ => rfl) (fun _ => rfl) (fun e => by omega) (fun _ _ _ => rfl) (fun _ => rfl)
theorem fill_ids (p : Pl) (v : Od.O) (rest : List (Nat × Value)) : Instr.fill (fun x => plc[x]?) (poolA p) ((5, .agg (ordA v)) :: rest) = Instr.fill (fun x => plc[x]?) (poolA { p with ids := v }) rest := by
  rw [fill_step _ _ _ (.agg (ordA v)) _ 67 32 rfl (ordA_size v) (by rw [poolA_size]; omega)]
  refine congrArg (fun c => Instr.fill (fun x => plc[x]?) c rest) ?_
  have e : (Value.agg (ordA v)).cells = ordA v := rfl
  rw [e]
  refine sets_pool (by rw [ordA_size]; omega) (fun j hj => ?_) (fun i hi hc => ?_)
  · rw [ordA_size] at hj
    rw [ordA_get v j hj, cell_ids _ j hj]
  · rw [ordA_size] at hc
    exact cell_up hi (fun _ => rfl) (fun _ _ _ => rfl) (fun _ _ _ => rfl) (fun _ => rfl) (fun _ => rfl) (fun j hj e => by omega) (fun _ => rfl)
theorem fill_count (p : Pl) (v : Int) (rest : List (Nat × Value)) : Instr.fill (fun x => plc[x]?) (poolA p) ((6, .int .i64 v) :: rest) = Instr.fill (fun x => plc[x]?) (poolA { p with count := v }) rest := by
  rw [fill_step _ _ _ _ _ 99 1 rfl rfl (by rw [poolA_size]; omega)]
  refine congrArg (fun c => Instr.fill (fun x => plc[x]?) c rest) ?_
  refine sets_pool (by simp [Value.cells]) (fun j hj => ?_) (fun i hi hc => ?_)
  · obtain rfl : j = 0 := by simp [Value.cells] at hj; omega
    rfl
  · simp only [Value.cells, List.size_toArray, List.length_cons, List.length_nil] at hc
    exact cell_up hi (fun _ => rfl) (fun _ _ _ => rfl) (fun _ _ _ => rfl) (fun _ => rfl) (fun _ => rfl) (fun _ _ _ => rfl) (fun e => by omega)
theorem sz (w : World) {t n : Nat} (h : (Tryz.prog.info? t).map (·.size) = some n) : (sizeOf t).run Tryz.prog w = .ok n w := by
  cases hq : Tryz.prog.info? t with
  | none => simp [hq] at h
  | some i =>
    have hs : i.size = n := by simpa [hq] using h
    simp [sizeOf, typeInfo, hq, hs]
theorem inf_int : (Tryz.prog.info? 3).map (·.size) = some 1 := by kernel_rfl
theorem inf_set : (Tryz.prog.info? 82).map (·.size) = some 1 := by kernel_rfl
theorem inf_u64 : (Tryz.prog.info? 46).map (·.size) = some 1 := by kernel_rfl
theorem ints_info : (Tryz.prog.info? 49).map (·.size) = some 32 := by kernel_rfl
theorem build_run (parts : Array (Nat × Value)) (q : Pl) (w : World) (h : Instr.fill (fun x => plc[x]?) (poolA zeroP) parts.toList = some (poolA q)) : (Instr.build 87 parts).run Tryz.prog w = .ok (.agg (poolA q)) w := by
  have h1 := fun w => sz w inf_int
  have h2 := fun w => sz w mat_info
  have h3 := fun w => sz w ord_info
  have h4 := fun w => sz w inf_set
  have h6 := fun w => sz w ints_info
  have hz := (zero_of_info zero_pool_info).1
  have hc : (Value.agg (poolA zeroP)).cells = poolA zeroP := rfl
  unfold Instr.build
  simp only [Sem.run_bind, hz, run_underlying Tryz.underlying87, Result.andThen_ok]
  unfold plc at h
  simp [h1, h2, h3, h4, h6, hc, h]
theorem rbuild_run (parts : Array (Nat × Value)) (q : Pl) (w : World) (h : Instr.fill (fun x => plc[x]?) (poolA zeroP) parts.toList = some (poolA q)) : (Instr.build 52 parts).run Tryz.prog w = .ok (.agg (poolA q)) w := by
  have h1 := fun w => sz w inf_int
  have h2 := fun w => sz w rmat_info
  have h3 := fun w => sz w rord_info
  have h4 := fun w => sz w inf_u64
  have h6 := fun w => sz w ints_info
  have hz := (zero_of_info zero_rpool_info).1
  have hc : (Value.agg (poolA zeroP)).cells = poolA zeroP := rfl
  unfold Instr.build
  simp only [Sem.run_bind, hz, run_underlying Tryz.underlying52, Result.andThen_ok]
  unfold plc at h
  simp [h1, h2, h3, h4, h6, hc, h]
theorem build_none (w : World) : (Instr.build 87 #[]).run Tryz.prog w = .ok (.agg (poolA zeroP)) w := build_run _ _ _ rfl
theorem rbuild_none (w : World) : (Instr.build 52 #[]).run Tryz.prog w = .ok (.agg (poolA zeroP)) w := rbuild_run _ _ _ rfl
theorem build_new (n : Int) (w : World) : (Instr.build 87 #[(0, .int .i64 n), (2, .agg (ordA Od.newO))]).run Tryz.prog w = .ok (.agg (poolA (Po.newP n))) w :=
  build_run _ _ _ (by show Instr.fill _ _ [_, _] = _; rw [fill_size, fill_o]; rfl)
theorem rbuild_new (n : Int) (w : World) : (Instr.build 52 #[(0, .int .i64 n), (2, .agg (ordA Od.newO))]).run Tryz.prog w = .ok (.agg (poolA (Po.newP n))) w :=
  rbuild_run _ _ _ (by show Instr.fill _ _ [_, _] = _; rw [fill_size, fill_o]; rfl)
theorem rbuild_all (p : Pl) (w : World) : (Instr.build 52 #[(0, .int .i64 p.size), (1, .agg (matA p.m)), (2, .agg (ordA p.o)), (3, .int .u64 (p.live : Nat)), (4, .int .u64 (p.done : Nat)), (5, .agg (ordA p.ids)), (6, .int .i64 p.count)]).run Tryz.prog w = .ok (.agg (poolA p)) w :=
  rbuild_run _ _ _ (by show Instr.fill _ _ [_, _, _, _, _, _, _] = _; rw [fill_size, fill_m, fill_o, fill_live, fill_done, fill_ids, fill_count]; rfl)
end Go.Proofs.YtfdfiiocccafkaaGreatDoor
namespace Go.Proofs.YtfdfiiocccafkaaGreatDoor
open Go.RowKit
attribute [local go_sem ↓] Go.wp_at_zero Go.wp_at_succ
theorem load_whole (w : World) (g : Nat) (p : Pl) (t ty : Nat) (d : TypeDesc) (h : PoolAt w g p t) (hu : Tryz.prog.underlying ty = some d) (hd : d.isRow = true) (hi : (Tryz.prog.info? ty).map (·.size) = some 100) :
    (loadVar ty ⟨g, 0, none⟩).run Tryz.prog w = .ok (.agg (poolA p)) w :=
  run_loadVar_mid w g 0 ty (poolA p).toList d (fun j v hv => by rw [Nat.zero_add]; rw [Array.getElem?_toList] at hv; rw [cell_of_row _ _ _ _ _ _ h, hv]) hu hd (by simpa [poolA_size] using hi)
theorem results_pool {fn : Func} {c u : Tmp} {ty : TypeId} (h : fn.results = #[.cell c ty, .tmp u]) (tmps : Array Value) (w : World) (g : Nat) (t : TypeId) (p : Pl) (d : TypeDesc) (x : Value)
    (hp : tmps.getD c undef = .pointer (some ⟨g, 0, none⟩)) (hx : tmps.getD u undef = x) (hg : PoolAt w g p t)
    (hu : Tryz.prog.underlying ty = some d) (hd : d.isRow = true) (hi : (Tryz.prog.info? ty).map (·.size) = some 100) :
    (results fn tmps).run Tryz.prog w = .ok (.tuple #[.agg (poolA p), x]) w := by
  rw [results_cell_tmp h, hp, hx]
  simp [asAddr, Result.andThen, load_whole w g p t ty d hg hu hd hi]
theorem wpList_build {ops : Array Oper} {rest : List Oper} {op : Oper} {a : Act} {w : World} {Q : Exit → Act → World → Prop} (hw : Region.wanted op (yielded ops a.tmps) = true) (t : TypeId) (parts : Array (Nat × Operand)) (ho : op.op = .build t parts)
    (parts' : Array (Nat × Value)) (hp : (parts.map fun (i, x) => (i, a.eval x)) = parts') (v : Value) (hv : (Instr.build t parts').run Tryz.prog w = .ok v w)
    (hK : wpList Tryz.prog ops Q rest (a.put op.dst v) w) : wpList Tryz.prog ops Q (op :: rest) a w :=
  wpList_step fun _ hK' => by
    rw [if_pos hw]
    unfold Oper.wp execOp
    simp only [ho, hp, Sem.run_bind, hv, Result.andThen_ok]
    exact hK' _ _ hK
/-- the pool that was handed in lies in its box, and there is a variable for what is told. -/
structure QSt (p : Pl) (t : Nat) (w : World) (q : Pl) (wr : World) : Prop where
  po : PoolAt wr w.heap.size p t
  re : PoolAt wr (w.heap.size + 1) q t
  bel : Below w.heap.size w wr
theorem QSt.below {p q : Pl} {t : Nat} {w W W' : World} (h : QSt p t w q W) (hb : Below W.heap.size W W') : QSt p t w q W' := ⟨h.po.below hb, h.re.below hb, h.bel.trans (hb.mono h.bel.size)⟩
theorem qst_first (p : Pl) (t : Nat) (w : World) : QSt p t w zeroP ((w.alloc (.cells (poolA p) t)).alloc (.cells (poolA zeroP) t)) :=
  ⟨(poolAt_new w p t).alloc _, by have := poolAt_new (w.alloc (.cells (poolA p) t)) zeroP t; simpa using this, ((Below.refl _ _).alloc (Nat.le_refl _) _).alloc (by simp) _⟩
theorem QSt.tell {p q : Pl} {t : Nat} {w W : World} (h : QSt p t w q W) (r : Pl) : QSt p t w r (W.setRow (w.heap.size + 1) (poolA r)) :=
  ⟨h.po.setRow _ (by omega), poolAt_put h.re, setRow_below h.bel (by omega)⟩
set_option maxHeartbeats 1000000 in
set_option maxRecDepth 100000 in
theorem pnew_yes (n : Int) (w : World) (h : 1 ≤ n ∧ n ≤ 32) :
    Calls Tryz.prog 26 #[.int .i64 n] w fun e w' => e = .returned (.tuple #[.agg (poolA (Po.newP n)), .bool true]) ∧ Below w.heap.size w w' := by
  have hz := (zero_of_info zero_pool_info).1
  have H0 := Lib.hid (pst_first zeroP 87 w)
  go_enter Tryz.func26, Tryz.ntmps26
  go_wp2_with fail
  refine (new_any _).mono ?_
  rintro e w1 ⟨rfl, hb1⟩
  have H1 := Lib.hid (H0.out.below hb1)
  clear hb1 H0
  go_wp2_with (first
    | (refine wpList_build rfl 87 #[(0, .tmp 11), (2, .tmp 12)] rfl #[(0, .int .i64 n), (2, .agg (ordA Od.newO))] (by simp [Act.eval]) _ (build_new n _) ?_)
    | (refine store_pool rfl 87 (.tmp 2) (.tmp 13) rfl rfl w.heap.size _ (Po.newP n) 87 rfl rfl H1.out.po pool_info ?_))
  refine bodyPost_ret (results_pool rfl _ _ w.heap.size 87 (Po.newP n) _ (.bool true) rfl rfl (poolAt_put H1.out.po) Tryz.underlying87 rfl pool_info) rfl ⟨rfl, ?_⟩
  exact setRow_below H1.out.bel (Nat.le_refl _)
set_option maxHeartbeats 1000000 in
set_option maxRecDepth 100000 in
theorem pnew_no (n : Int) (w : World) (h : n < 1 ∨ 32 < n) (h0 : -9223372036854775808 ≤ n) (h1 : n ≤ 9223372036854775807) :
    Calls Tryz.prog 26 #[.int .i64 n] w fun e w' => e = .returned (.tuple #[.agg (poolA zeroP), .bool false]) ∧ Below w.heap.size w w' := by
  have hz := (zero_of_info zero_pool_info).1
  have H0 := Lib.hid (pst_first zeroP 87 w)
  have hbn := build_none
  go_enter Tryz.func26, Tryz.ntmps26
  by_cases hl : n < 1
  · go_wp2_with (refine store_pool rfl 87 (.tmp 2) (.tmp 10) rfl rfl w.heap.size _ zeroP 87 rfl rfl H0.out.po pool_info ?_)
    refine bodyPost_ret (results_pool rfl _ _ w.heap.size 87 zeroP _ (.bool false) rfl rfl (poolAt_put H0.out.po) Tryz.underlying87 rfl pool_info) rfl ⟨rfl, ?_⟩
    exact setRow_below H0.out.bel (Nat.le_refl _)
  · have hg : 32 < n := by omega
    go_wp2_with (refine store_pool rfl 87 (.tmp 2) (.tmp 10) rfl rfl w.heap.size _ zeroP 87 rfl rfl H0.out.po pool_info ?_)
    refine bodyPost_ret (results_pool rfl _ _ w.heap.size 87 zeroP _ (.bool false) rfl rfl (poolAt_put H0.out.po) Tryz.underlying87 rfl pool_info) rfl ⟨rfl, ?_⟩
    exact setRow_below H0.out.bel (Nat.le_refl _)
/- End -/
set_option maxHeartbeats 1000000 in
set_option maxRecDepth 100000 in
theorem end_no (p : Pl) (s : Int) (w : World) (hp : p.Ok) (h0 : -9223372036854775808 ≤ s) (h1 : s ≤ 9223372036854775807) (hs : Sm.has p.live s = false) :
    Calls Tryz.prog 87 #[.agg (poolA p), .int .i64 s] w fun e w' => e = .returned (.tuple #[.agg (poolA p), .int .i64 3]) ∧ Below w.heap.size w w' := by
  have hz := (zero_of_info zero_pool_info).1
  have H0 := Lib.hid (qst_first p 87 w)
  have HP := Lib.hid hp
  have HS := Lib.hid hs
  have hc := H0.out.po.live_
  clear hp hs
  go_enter Tryz.func87, Tryz.ntmps87
  go_wp2_with fail
  refine (hasI_val p.live s false _ HP.out.live h0 h1 HS.out).mono ?_
  rintro e w' ⟨rfl, rfl⟩
  go_wp2_with (first
    | (refine load_pool rfl 87 (.tmp 2) rfl w.heap.size p 87 rfl _ H0.out.po Tryz.underlying87 rfl pool_info ?_)
    | (refine store_pool rfl 87 (.tmp 4) (.tmp 11) rfl rfl (w.heap.size + 1) _ p 87 rfl rfl H0.out.re pool_info ?_))
  refine bodyPost_ret (results_pool rfl _ _ (w.heap.size + 1) 87 p _ (.int .i64 3) rfl rfl (H0.out.tell p).re Tryz.underlying87 rfl pool_info) rfl ⟨rfl, (H0.out.tell p).bel⟩
theorem QSt.put_live {p q : Pl} {t : Nat} {w W : World} (h : QSt p t w q W) (x : Nat) : QSt { p with live := x } t w q (W.setCell ⟨w.heap.size, 65, none⟩ (.int .u64 (x : Nat))) :=
  ⟨poolAt_live h.po, h.re.setCell _ _ (by simp), h.bel.setCell (by simp) _⟩
theorem QSt.put_done {p q : Pl} {t : Nat} {w W : World} (h : QSt p t w q W) (x : Nat) : QSt { p with done := x } t w q (W.setCell ⟨w.heap.size, 66, none⟩ (.int .u64 (x : Nat))) :=
  ⟨poolAt_done h.po, h.re.setCell _ _ (by simp), h.bel.setCell (by simp) _⟩
theorem QSt.put_count {p q : Pl} {t : Nat} {w W : World} (h : QSt p t w q W) (x : Int) : QSt { p with count := x } t w q (W.setCell ⟨w.heap.size, 99, none⟩ (.int .i64 x)) :=
  ⟨poolAt_count h.po, h.re.setCell _ _ (by simp), h.bel.setCell (by simp) _⟩
theorem QSt.put_id {p q : Pl} {t : Nat} {w W : World} (h : QSt p t w q W) (k : Nat) (hk : k < 32) (x : Int) : QSt { p with ids := Od.upd p.ids k x } t w q (W.setCell ⟨w.heap.size, 67 + k, none⟩ (.int .i64 x)) :=
  ⟨poolAt_id h.po hk, h.re.setCell _ _ (by simp), h.bel.setCell (by simp) _⟩
theorem QSt.put_m {p q : Pl} {t : Nat} {w W : World} (h : QSt p t w q W) (n : Mm.Gr) : QSt { p with m := n } t w q (W.setCells w.heap.size 1 (matA n).toList) :=
  ⟨poolAt_m h.po, (heap_setCells_other _ _ (by omega) _ _ _).trans h.re, setCells_below _ (Nat.le_refl _) _ _ _ h.bel⟩
theorem QSt.put_o {p q : Pl} {t : Nat} {w W : World} (h : QSt p t w q W) (n : Od.O) : QSt { p with o := n } t w q (W.setCells w.heap.size 33 (ordA n).toList) :=
  ⟨poolAt_o h.po, (heap_setCells_other _ _ (by omega) _ _ _).trans h.re, setCells_below _ (Nat.le_refl _) _ _ _ h.bel⟩
set_option maxHeartbeats 1000000 in
set_option maxRecDepth 100000 in
theorem end_yes (p : Pl) (s : Int) (w : World) (hp : p.Ok) (h0 : -9223372036854775808 ≤ s) (h1 : s ≤ 9223372036854775807) (hs : Sm.has p.live s = true) :
    Calls Tryz.prog 87 #[.agg (poolA p), .int .i64 s] w fun e w' => e = .returned (.tuple #[.agg (poolA (Po.ended p s)), .int .i64 0]) ∧ Below w.heap.size w w' := by
  have hz := (zero_of_info zero_pool_info).1
  have H0 := Lib.hid (qst_first p 87 w)
  have HP := Lib.hid hp
  have HS := Lib.hid hs
  have hc := H0.out.po.live_
  have hcf := H0.out.po.frozen 65
  clear hp hs
  go_enter Tryz.func87, Tryz.ntmps87
  go_wp2_with fail
  generalize (w.alloc (.cells (poolA p) 87)).alloc (.cells (poolA zeroP) 87) = W at *
  refine (hasI_val p.live s true _ HP.out.live h0 h1 HS.out).mono ?_
  rintro e w' ⟨rfl, rfl⟩
  go_wp2_with fail
  refine (less_any p.live s _ HP.out.live h0 h1).mono ?_
  rintro e w' ⟨rfl, rfl⟩
  have H1 := Lib.hid (H0.out.put_live (Sm.less p.live s))
  have hd := H1.out.po.done_
  have hdf := H1.out.po.frozen 66
  go_wp2_with fail
  refine (with_any p.done s _ HP.out.done h0 h1).mono ?_
  rintro e w' ⟨rfl, rfl⟩
  have H2 := Lib.hid (H1.out.put_done (Sm.add p.done s))
  go_wp2_with (first
    | (refine load_pool rfl 87 (.tmp 2) rfl w.heap.size _ 87 rfl _ H2.out.po Tryz.underlying87 rfl pool_info ?_)
    | (refine store_pool rfl 87 (.tmp 4) (.tmp 22) rfl rfl (w.heap.size + 1) _ _ 87 rfl rfl H2.out.re pool_info ?_))
  refine bodyPost_ret (results_pool rfl _ _ (w.heap.size + 1) 87 (Po.ended p s) _ (.int .i64 0) rfl rfl (H2.out.tell _).re Tryz.underlying87 rfl pool_info) rfl ⟨rfl, (H2.out.tell _).bel⟩
theorem end_any (p : Pl) (s : Int) (w : World) (hp : p.Ok) (h0 : -9223372036854775808 ≤ s) (h1 : s ≤ 9223372036854775807) :
    Calls Tryz.prog 87 #[.agg (poolA p), .int .i64 s] w fun e w' => e = .returned (.tuple #[.agg (poolA (Po.endP p s).1), .int .i64 (Po.endP p s).2]) ∧ Below w.heap.size w w' := by
  unfold Po.endP
  cases hs : Sm.has p.live s
  · exact end_no p s w hp h0 h1 hs
  · exact end_yes p s w hp h0 h1 hs
end Go.Proofs.YtfdfiiocccafkaaGreatDoor
namespace Go.Proofs.YtfdfiiocccafkaaGreatDoor
open Go.RowKit
attribute [local go_sem ↓] Go.wp_at_zero Go.wp_at_succ
theorem tab_keep {w W : World} (h : TabAt w) (hb : Below w.heap.size w W) : TabAt W := h.below hb h.lt
/-- two variables that were made, and given their values. -/
theorem two_new {t u : Nat} {W : World} (Z1 Z2 : Array Value) (m : Mm.Gr) (o : Od.O) :
    MatAt ((((W.alloc (.cells Z1 t)).alloc (.cells Z2 u)).setRow W.heap.size (matA m)).setRow (W.heap.size + 1) (ordA o)) W.heap.size m t ∧
    OrdAt ((((W.alloc (.cells Z1 t)).alloc (.cells Z2 u)).setRow W.heap.size (matA m)).setRow (W.heap.size + 1) (ordA o)) (W.heap.size + 1) o u ∧
    Below W.heap.size W ((((W.alloc (.cells Z1 t)).alloc (.cells Z2 u)).setRow W.heap.size (matA m)).setRow (W.heap.size + 1) (ordA o)) := by
  have h1 : MatAt (((W.alloc (.cells Z1 t)).alloc (.cells Z2 u)).setRow W.heap.size (matA m)) W.heap.size m t := setRow_heap _ _ _ _ _ _ (heap_alloc2_old _ _ _)
  have h2 : (((W.alloc (.cells Z1 t)).alloc (.cells Z2 u)).setRow W.heap.size (matA m)).heap[W.heap.size + 1]? = some (.cells Z2 u (0, 0)) := (setRow_other _ _ _ _ (by omega)).trans (heap_alloc2_new _ _ _)
  exact ⟨h1.setRow _ (by omega), setRow_heap _ _ _ _ _ _ h2, setRow_below (setRow_below (((Below.refl _ _).alloc (Nat.le_refl _) _).alloc (by simp) _) (Nat.le_refl _)) (by omega)⟩
theorem wpList_let2 {ops : Array Oper} {rest : List Oper} {o1 o2 : Oper} {a : Act} {V : World} {Q : Exit → Act → World → Prop} {Z1 Z2 : Array Value} (hg1 : o1.guard = none) (hg2 : o2.guard = none) (t u : Nat) (x1 y1 x2 y2 : Operand)
    (ho1 : o1.op = .store t x1 y1) (ho2 : o2.op = .store u x2 y2) (hd1 : o1.dst = none) (hd2 : o2.dst = none) (W : World) (m : Mm.Gr) (o : Od.O) (hV : V = (W.alloc (.cells Z1 t)).alloc (.cells Z2 u)) (hx1 : a.eval x1 = .pointer (some ⟨W.heap.size, 0, none⟩)) (hy1 : a.eval y1 = .agg (matA m)) (hx2 : a.eval x2 = .pointer (some ⟨W.heap.size + 1, 0, none⟩)) (hy2 : a.eval y2 = .agg (ordA o))
    (hz1 : Z1.size = 32) (hz2 : Z2.size = 32) (hi1 : (Tryz.prog.info? t).map (·.size) = some 32) (hi2 : (Tryz.prog.info? u).map (·.size) = some 32)
    (h : ∀ W', MatAt W' W.heap.size m t → OrdAt W' (W.heap.size + 1) o u → Below W.heap.size W W' → wpList Tryz.prog ops Q rest a W') : wpList Tryz.prog ops Q (o1 :: o2 :: rest) a V := by
  subst hV
  have h0 := two_new (t := t) (u := u) (W := W) Z1 Z2 m o
  refine wpList_store_row hg1 t x1 y1 ho1 W.heap.size (matA m) hx1 hy1 t Z1 (heap_alloc2_old _ _ _) (by rw [matA_size]; exact hi1) (by rw [hz1, matA_size]) (matA_one _) ?_
  rw [hd1]
  refine wpList_store_row hg2 u x2 y2 ho2 (W.heap.size + 1) (ordA o) hx2 hy2 u Z2 ((setRow_other _ _ _ _ (by omega)).trans (heap_alloc2_new _ _ _)) (by rw [ordA_size]; exact hi2) (by rw [hz2, ordA_size]) (ordA_one _) ?_
  rw [hd2]
  exact h _ h0.1 h0.2.1 h0.2.2
theorem step_store_m {w : World} {ops : Array Oper} {op : Oper} {a : Act} {K : Act → World → Prop} {Q : Exit → Act → World → Prop} {E : Prop} (hgd : op.guard = none) (ty : TypeId) (x y : Operand) (ho : op.op = .store ty x y)
    (g : Nat) (p : Pl) (n : Mm.Gr) (t : Nat) (hx : a.eval x = .pointer (some ⟨g, 1, none⟩)) (hy : a.eval y = .agg (matA n)) (h : PoolAt w g p t) (hi : (Tryz.prog.info? ty).map (·.size) = some 32)
    (hK : K (a.put op.dst undef) (w.setCells g 1 (matA n).toList)) : if Region.wanted op (yielded ops a.tmps) = true then Oper.wp Tryz.prog op a w K Q else E := by
  have hw : Region.wanted op (yielded ops a.tmps) = true := by simp [Region.wanted, hgd]
  rw [if_pos hw]
  exact wp_store_mid ty x y ho g 1 (matA n) hx hy (by rw [matA_size]; exact h.there 1 32 (by omega)) (by rw [matA_size]; exact hi) (matA_one _) hK
theorem step_store_o {w : World} {ops : Array Oper} {op : Oper} {a : Act} {K : Act → World → Prop} {Q : Exit → Act → World → Prop} {E : Prop} (hgd : op.guard = none) (ty : TypeId) (x y : Operand) (ho : op.op = .store ty x y)
    (g : Nat) (p : Pl) (n : Od.O) (t : Nat) (hx : a.eval x = .pointer (some ⟨g, 33, none⟩)) (hy : a.eval y = .agg (ordA n)) (h : PoolAt w g p t) (hi : (Tryz.prog.info? ty).map (·.size) = some 32)
    (hK : K (a.put op.dst undef) (w.setCells g 33 (ordA n).toList)) : if Region.wanted op (yielded ops a.tmps) = true then Oper.wp Tryz.prog op a w K Q else E := by
  have hw : Region.wanted op (yielded ops a.tmps) = true := by simp [Region.wanted, hgd]
  rw [if_pos hw]
  exact wp_store_mid ty x y ho g 33 (ordA n) hx hy (by rw [ordA_size]; exact h.there 33 32 (by omega)) (by rw [ordA_size]; exact hi) (ordA_one _) hK
theorem step_store_pool {w : World} {ops : Array Oper} {op : Oper} {a : Act} {K : Act → World → Prop} {Q : Exit → Act → World → Prop} {E : Prop} (hgd : op.guard = none) (ty : TypeId) (x y : Operand) (ho : op.op = .store ty x y)
    (g : Nat) (p q : Pl) (t : Nat) (hx : a.eval x = .pointer (some ⟨g, 0, none⟩)) (hy : a.eval y = .agg (poolA q)) (h : PoolAt w g p t) (hi : (Tryz.prog.info? ty).map (·.size) = some 100)
    (hK : K (a.put op.dst undef) (w.setRow g (poolA q))) : if Region.wanted op (yielded ops a.tmps) = true then Oper.wp Tryz.prog op a w K Q else E :=
  step_store_row hgd ty x y ho g (poolA q) hx hy t _ h (by rw [poolA_size]; exact hi) (by rw [poolA_size, poolA_size]) (poolA_one _) hK
theorem yields_pool {ops : Array Oper} {S : World → Prop} {op : Oper} {a : Act} (hw : Region.wanted op (yielded ops a.tmps) = true) (ty : TypeId) (x : Operand) (ho : op.op = .load ty x)
    (g : Nat) (hx : a.eval x = .pointer (some ⟨g, 0, none⟩)) (t : Nat) (p : Pl) (d : TypeDesc) (hS : ∀ w, S w → PoolAt w g p t)
    (hu : Tryz.prog.underlying ty = some d) (hd : d.isRow = true) (hi : (Tryz.prog.info? ty).map (·.size) = some 100) : YieldsIf Tryz.prog ops S op (.agg (poolA p)) a :=
  .inl ⟨hw, fun w hw' => by
    unfold execOp
    simp only [ho, hx, Instr.loadAt, Instr.sureAddr, Sem.run_bind, Sem.run_pure, Result.andThen_ok, load_whole w g p t ty d (hS w hw') hu hd hi]⟩
/-- what the last region of Edge holds on to. -/
def ESt (t u v : Nat) (w : World) (q : Pl) (g : Nat) (m : Mm.Gr) (o : Od.O) (W : World) : Prop := (∃ p, QSt p t w q W) ∧ MatAt W g m u ∧ OrdAt W (g + 1) o v
set_option maxHeartbeats 1000000 in
set_option maxRecDepth 100000 in
theorem edge_arg (p : Pl) (a : Int) (w : World) :
    Calls Tryz.prog 108 #[.agg (poolA p), .int .i64 a, .int .i64 a] w fun e w' => e = .returned (.tuple #[.agg (poolA p), .int .i64 2]) ∧ Below w.heap.size w w' := by
  have hz := (zero_of_info zero_pool_info).1
  have H0 := Lib.hid (qst_first p 87 w)
  go_enter Tryz.func108, Tryz.ntmps108
  go_wp2_with (first
    | (refine load_pool rfl 87 (.tmp 3) rfl w.heap.size p 87 rfl _ H0.out.po Tryz.underlying87 rfl pool_info ?_)
    | (refine store_pool rfl 87 (.tmp 6) (.tmp 14) rfl rfl (w.heap.size + 1) _ p 87 rfl rfl H0.out.re pool_info ?_))
  refine bodyPost_ret (results_pool rfl _ _ (w.heap.size + 1) 87 p _ (.int .i64 2) rfl rfl (H0.out.tell p).re Tryz.underlying87 rfl pool_info) rfl ⟨rfl, (H0.out.tell p).bel⟩
set_option maxHeartbeats 2000000 in
set_option maxRecDepth 100000 in
theorem edge_none1 (p : Pl) (a b : Int) (w : World) (hp : p.Ok) (ha : -9223372036854775808 ≤ a ∧ a ≤ 9223372036854775807) (_ : -9223372036854775808 ≤ b ∧ b ≤ 9223372036854775807) (hab : a ≠ b) (h1 : Po.taken p a = false) :
    Calls Tryz.prog 108 #[.agg (poolA p), .int .i64 a, .int .i64 b] w fun e w' => e = .returned (.tuple #[.agg (poolA p), .int .i64 3]) ∧ Below w.heap.size w w' := by
  have hz := (zero_of_info zero_pool_info).1
  have H0 := Lib.hid (qst_first p 87 w)
  have HP := Lib.hid hp
  have HA := Lib.hid h1
  clear hp h1
  go_enter Tryz.func108, Tryz.ntmps108
  go_wp2_with (refine load_pool rfl 87 (.tmp 3) rfl w.heap.size p 87 rfl _ H0.out.po Tryz.underlying87 rfl pool_info ?_)
  refine (taken_val p a false _ HP.out.live HP.out.done ha.1 ha.2 HA.out).mono ?_
  rintro e w1 ⟨rfl, hb1⟩
  have H1 := Lib.hid (H0.out.below hb1)
  clear hb1 H0
  go_wp2_with (first
    | (refine load_pool rfl 87 (.tmp 3) rfl w.heap.size p 87 rfl _ H1.out.po Tryz.underlying87 rfl pool_info ?_)
    | (refine store_pool rfl 87 (.tmp 6) (.tmp 25) rfl rfl (w.heap.size + 1) _ p 87 rfl rfl H1.out.re pool_info ?_))
  refine bodyPost_ret (results_pool rfl _ _ (w.heap.size + 1) 87 p _ (.int .i64 3) rfl rfl (H1.out.tell p).re Tryz.underlying87 rfl pool_info) rfl ⟨rfl, (H1.out.tell p).bel⟩
set_option maxHeartbeats 2000000 in
set_option maxRecDepth 100000 in
theorem edge_none2 (p : Pl) (a b : Int) (w : World) (hp : p.Ok) (ha : -9223372036854775808 ≤ a ∧ a ≤ 9223372036854775807) (hb : -9223372036854775808 ≤ b ∧ b ≤ 9223372036854775807) (hab : a ≠ b) (h1 : Po.taken p a = true) (h2 : Po.taken p b = false) :
    Calls Tryz.prog 108 #[.agg (poolA p), .int .i64 a, .int .i64 b] w fun e w' => e = .returned (.tuple #[.agg (poolA p), .int .i64 3]) ∧ Below w.heap.size w w' := by
  have hz := (zero_of_info zero_pool_info).1
  have H0 := Lib.hid (qst_first p 87 w)
  have HP := Lib.hid hp
  have HA := Lib.hid h1
  have HB := Lib.hid h2
  clear hp h1 h2
  go_enter Tryz.func108, Tryz.ntmps108
  go_wp2_with (refine load_pool rfl 87 (.tmp 3) rfl w.heap.size p 87 rfl _ H0.out.po Tryz.underlying87 rfl pool_info ?_)
  refine (taken_val p a true _ HP.out.live HP.out.done ha.1 ha.2 HA.out).mono ?_
  rintro e w1 ⟨rfl, hb1⟩
  have H1 := Lib.hid (H0.out.below hb1)
  clear hb1 H0
  go_wp2_with (refine load_pool rfl 87 (.tmp 3) rfl w.heap.size p 87 rfl _ H1.out.po Tryz.underlying87 rfl pool_info ?_)
  refine (taken_val p b false _ HP.out.live HP.out.done hb.1 hb.2 HB.out).mono ?_
  rintro e w2 ⟨rfl, hb2⟩
  have H2 := Lib.hid (H1.out.below hb2)
  clear hb2 H1
  go_wp2_with (first
    | (refine load_pool rfl 87 (.tmp 3) rfl w.heap.size p 87 rfl _ H2.out.po Tryz.underlying87 rfl pool_info ?_)
    | (refine store_pool rfl 87 (.tmp 6) (.tmp 25) rfl rfl (w.heap.size + 1) _ p 87 rfl rfl H2.out.re pool_info ?_))
  refine bodyPost_ret (results_pool rfl _ _ (w.heap.size + 1) 87 p _ (.int .i64 3) rfl rfl (H2.out.tell p).re Tryz.underlying87 rfl pool_info) rfl ⟨rfl, (H2.out.tell p).bel⟩
set_option maxHeartbeats 2000000 in
set_option maxRecDepth 100000 in
theorem edge_cycle (p : Pl) (a b : Int) (w : World) (hp : p.Ok) (ha : -9223372036854775808 ≤ a ∧ a ≤ 9223372036854775807) (hb : -9223372036854775808 ≤ b ∧ b ≤ 9223372036854775807) (hab : a ≠ b) (h1 : Po.taken p a = true) (h2 : Po.taken p b = true) (h3 : (Od.insert p.m p.o a b).2.2 = false) (hT : TabAt w) :
    Calls Tryz.prog 108 #[.agg (poolA p), .int .i64 a, .int .i64 b] w fun e w' => e = .returned (.tuple #[.agg (poolA p), .int .i64 5]) ∧ Below w.heap.size w w' := by
  have hz := (zero_of_info zero_pool_info).1
  have H0 := Lib.hid (qst_first p 87 w)
  have HP := Lib.hid hp
  have HA := Lib.hid h1
  have HB := Lib.hid h2
  have HR := Lib.hid h3
  have HT := Lib.hid hT
  clear hp h1 h2 h3 hT
  go_enter Tryz.func108, Tryz.ntmps108
  go_wp2_with (refine load_pool rfl 87 (.tmp 3) rfl w.heap.size p 87 rfl _ H0.out.po Tryz.underlying87 rfl pool_info ?_)
  refine (taken_val p a true _ HP.out.live HP.out.done ha.1 ha.2 HA.out).mono ?_
  rintro e w1 ⟨rfl, hb1⟩
  have H1 := Lib.hid (H0.out.below hb1)
  clear hb1 H0
  go_wp2_with (refine load_pool rfl 87 (.tmp 3) rfl w.heap.size p 87 rfl _ H1.out.po Tryz.underlying87 rfl pool_info ?_)
  refine (taken_val p b true _ HP.out.live HP.out.done hb.1 hb.2 HB.out).mono ?_
  rintro e w2 ⟨rfl, hb2⟩
  have H2 := Lib.hid (H1.out.below hb2)
  clear hb2 H1
  go_wp2_with (first
    | (refine load_m rfl 84 (.tmp 27) rfl w.heap.size p 87 rfl _ H2.out.po Tryz.underlying84 rfl mat_info ?_)
    | (refine load_o rfl 85 (.tmp 29) rfl w.heap.size p 87 rfl _ H2.out.po Tryz.underlying85 rfl ord_info ?_))
  refine (insert_any p.m p.o a b _ HP.out.m HP.out.o ha hb (tab_keep HT.out H2.out.bel)).mono ?_
  rintro e w3 ⟨rfl, hb3⟩
  have H3 := Lib.hid (H2.out.below hb3)
  have HW := Lib.hid (show w.heap.size + 2 ≤ w3.heap.size from H3.out.re.lt)
  clear hb3 H2
  rw [HR.out]
  generalize hX : (Od.insert p.m p.o a b).1 = X
  generalize hO : (Od.insert p.m p.o a b).2.1 = O
  have HX := Lib.hid hX
  have HO := Lib.hid hO
  clear hX hO
  go_wp2_with (first
    | (refine wpList_let2 rfl rfl 84 85 (.tmp 8) (.tmp 34) (.tmp 9) (.tmp 35) rfl rfl rfl rfl w3 X O rfl rfl rfl rfl rfl rfl rfl mat_info ord_info ?_; intro w4 hM hO hB; have H4 := Lib.hid (H3.out.below hB); have HM := Lib.hid hM; have HO4 := Lib.hid hO; clear hM hO hB H3)
    | (refine load_pool rfl 87 (.tmp 3) rfl w.heap.size p 87 rfl _ H4.out.po Tryz.underlying87 rfl pool_info ?_)
    | (refine store_pool rfl 87 (.tmp 6) (.tmp 39) rfl rfl (w.heap.size + 1) _ p 87 rfl rfl H4.out.re pool_info ?_))
  refine bodyPost_ret (results_pool rfl _ _ (w.heap.size + 1) 87 p _ (.int .i64 5) rfl rfl (H4.out.tell p).re Tryz.underlying87 rfl pool_info) rfl ⟨rfl, (H4.out.tell p).bel⟩
end Go.Proofs.YtfdfiiocccafkaaGreatDoor
namespace Go.Proofs.YtfdfiiocccafkaaGreatDoor
open Go.RowKit
attribute [local go_sem ↓] Go.wp_at_zero Go.wp_at_succ
set_option maxHeartbeats 2000000 in
set_option maxRecDepth 100000 in
theorem edge_yes (p : Pl) (a b : Int) (w : World) (hp : p.Ok) (ha : -9223372036854775808 ≤ a ∧ a ≤ 9223372036854775807) (hb : -9223372036854775808 ≤ b ∧ b ≤ 9223372036854775807) (hab : a ≠ b) (h1 : Po.taken p a = true) (h2 : Po.taken p b = true) (h3 : (Od.insert p.m p.o a b).2.2 = true) (hT : TabAt w) :
    Calls Tryz.prog 108 #[.agg (poolA p), .int .i64 a, .int .i64 b] w fun e w' => e = .returned (.tuple #[.agg (poolA (Po.over p ((Od.insert p.m p.o a b).1, (Od.insert p.m p.o a b).2.1))), .int .i64 0]) ∧ Below w.heap.size w w' := by
  have hz := (zero_of_info zero_pool_info).1
  have H0 := Lib.hid (qst_first p 87 w)
  have HP := Lib.hid hp
  have HA := Lib.hid h1
  have HB := Lib.hid h2
  have HR := Lib.hid h3
  have HT := Lib.hid hT
  clear hp h1 h2 h3 hT
  go_enter Tryz.func108, Tryz.ntmps108
  go_wp2_with (refine load_pool rfl 87 (.tmp 3) rfl w.heap.size p 87 rfl _ H0.out.po Tryz.underlying87 rfl pool_info ?_)
  refine (taken_val p a true _ HP.out.live HP.out.done ha.1 ha.2 HA.out).mono ?_
  rintro e w1 ⟨rfl, hb1⟩
  have H1 := Lib.hid (H0.out.below hb1)
  clear hb1 H0
  go_wp2_with (refine load_pool rfl 87 (.tmp 3) rfl w.heap.size p 87 rfl _ H1.out.po Tryz.underlying87 rfl pool_info ?_)
  refine (taken_val p b true _ HP.out.live HP.out.done hb.1 hb.2 HB.out).mono ?_
  rintro e w2 ⟨rfl, hb2⟩
  have H2 := Lib.hid (H1.out.below hb2)
  clear hb2 H1
  go_wp2_with (first
    | (refine load_m rfl 84 (.tmp 27) rfl w.heap.size p 87 rfl _ H2.out.po Tryz.underlying84 rfl mat_info ?_)
    | (refine load_o rfl 85 (.tmp 29) rfl w.heap.size p 87 rfl _ H2.out.po Tryz.underlying85 rfl ord_info ?_))
  refine (insert_any p.m p.o a b _ HP.out.m HP.out.o ha hb (tab_keep HT.out H2.out.bel)).mono ?_
  rintro e w3 ⟨rfl, hb3⟩
  have H3 := Lib.hid (H2.out.below hb3)
  have HW := Lib.hid (show w.heap.size + 2 ≤ w3.heap.size from H3.out.re.lt)
  clear hb3 H2
  rw [HR.out]
  generalize hX : (Od.insert p.m p.o a b).1 = X
  generalize hO : (Od.insert p.m p.o a b).2.1 = O
  have HX := Lib.hid hX
  have HO := Lib.hid hO
  clear hX hO
  go_wp2_with (refine wpList_let2 rfl rfl 84 85 (.tmp 8) (.tmp 34) (.tmp 9) (.tmp 35) rfl rfl rfl rfl w3 X O rfl rfl rfl rfl rfl rfl rfl mat_info ord_info ?_; intro w4 hM hO hB; have H4 := Lib.hid (H3.out.below hB); have HM := Lib.hid hM; have HO4 := Lib.hid hO; clear hM hO hB H3)
  refine wp_region_noPanic ?_
  refine region_start (S := ESt 87 84 85 w zeroP w3.heap.size X O) 6 rfl (by kernel_rfl) (⟨⟨p, H4.out.below (below_drew _)⟩, HM.out.below (below_drew _), HO4.out.below (below_drew _)⟩) (fun hHeld => ?_)
  have HQ := Lib.hid (H4.out.below (below_drew _))
  refine take_at 0 40 (.agg (matA X)) rfl rfl (by kernel_rfl) (by kernel_rfl) (by kernel_rfl) (fun _ _ _ h => h) (yields_row (by rfl) 84 (.tmp 8) rfl (w3.heap.size) rfl 84 (matA X) (fun W h => h.2.1) Tryz.underlying84 (matInfo _)) hHeld ?_
  simp only [put_laws]
  refine take_at 1 41 (.agg (ordA O)) rfl rfl (by kernel_rfl) (by kernel_rfl) (by kernel_rfl) (fun _ _ _ h => h) (yields_row (by rfl) 85 (.tmp 9) rfl (w3.heap.size + 1) rfl 85 (ordA O) (fun W h => h.2.2) Tryz.underlying85 (ordInfo _)) hHeld ?_
  simp only [put_laws]
  refine take_at 2 42 (.pointer (some ⟨w.heap.size, 1, none⟩)) rfl rfl (by kernel_rfl) (by kernel_rfl) (by kernel_rfl) (fun _ _ _ h => h) (Or.inl ⟨by rfl, by intro W hW; clear hW; go_simp⟩) hHeld ?_
  simp only [put_laws]
  refine wpAnyH_ready (rs := [3]) (by kernel_rfl) (by simp) ?_
  refine AllReadyH.cons rfl (fun K hK => ?_) AllReadyH.nil
  refine step_store_m (by rfl) 84 (.tmp 42) (.tmp 40) (by rfl) w.heap.size p X 87 (by rfl) (by rfl) HQ.out.po mat_info ?_
  have HQ2 := Lib.hid (HQ.out.put_m X)
  have hHeld : ESt 87 84 85 w zeroP w3.heap.size X O _ := ⟨⟨_, HQ2.out⟩, (heap_setCells_other _ _ (by have := HW.out; omega) _ _ _).trans hHeld.2.1, (heap_setCells_other _ _ (by have := HW.out; omega) _ _ _).trans hHeld.2.2⟩
  refine hK.out _ _ hHeld (fun hHeld => ?_)
  clear hK K
  generalize w4.drew.setCells w.heap.size 1 (matA X).toList = w5 at *
  refine take_at 4 43 (.pointer (some ⟨w.heap.size, 33, none⟩)) rfl rfl (by kernel_rfl) (by kernel_rfl) (by kernel_rfl) (fun _ _ _ h => h) (Or.inl ⟨by rfl, by intro W hW; clear hW; go_simp⟩) hHeld ?_
  simp only [put_laws]
  refine wpAnyH_ready (rs := [5]) (by kernel_rfl) (by simp) ?_
  refine AllReadyH.cons rfl (fun K hK => ?_) AllReadyH.nil
  refine step_store_o (by rfl) 85 (.tmp 43) (.tmp 41) (by rfl) w.heap.size { p with m := X } O 87 (by rfl) (by rfl) HQ2.out.po ord_info ?_
  have HQ3 := Lib.hid (HQ2.out.put_o O)
  have hHeld : ESt 87 84 85 w zeroP w3.heap.size X O _ := ⟨⟨_, HQ3.out⟩, (heap_setCells_other _ _ (by have := HW.out; omega) _ _ _).trans hHeld.2.1, (heap_setCells_other _ _ (by have := HW.out; omega) _ _ _).trans hHeld.2.2⟩
  refine hK.out _ _ hHeld (fun hHeld => ?_)
  clear hK K hHeld
  refine wpAnyH_done (by kernel_rfl) ?_ _
  refine NoPanic.normal ?_
  generalize (w5.setCells w.heap.size 33 (ordA O).toList) = w6 at *
  go_wp2_with (first
    | (refine load_pool rfl 87 (.tmp 3) rfl w.heap.size (Po.over p (X, O)) 87 rfl _ HQ3.out.po Tryz.underlying87 rfl pool_info ?_)
    | (refine store_pool rfl 87 (.tmp 6) (.tmp 44) rfl rfl (w.heap.size + 1) _ (Po.over p (X, O)) 87 rfl rfl HQ3.out.re pool_info ?_))
  refine bodyPost_ret (results_pool rfl _ _ (w.heap.size + 1) 87 (Po.over p (X, O)) _ (.int .i64 0) rfl rfl (HQ3.out.tell _).re Tryz.underlying87 rfl pool_info) rfl ⟨by rw [HX.out, HO.out], (HQ3.out.tell _).bel⟩
theorem edge_any (p : Pl) (a b : Int) (w : World) (hp : p.Ok) (ha : -9223372036854775808 ≤ a ∧ a ≤ 9223372036854775807) (hb : -9223372036854775808 ≤ b ∧ b ≤ 9223372036854775807) (hT : TabAt w) :
    Calls Tryz.prog 108 #[.agg (poolA p), .int .i64 a, .int .i64 b] w fun e w' => e = .returned (.tuple #[.agg (poolA (Po.edge p a b).1), .int .i64 (Po.edge p a b).2]) ∧ Below w.heap.size w w' := by
  unfold Po.edge
  by_cases hab : a = b
  · subst hab; rw [if_pos rfl]; exact edge_arg p a w
  rw [if_neg hab]
  cases h1 : Po.taken p a
  · rw [if_pos (.inl rfl)]; exact edge_none1 p a b w hp ha hb hab h1
  cases h2 : Po.taken p b
  · rw [if_pos (.inr rfl)]; exact edge_none2 p a b w hp ha hb hab h1 h2
  rw [if_neg (by simp)]
  cases h3 : (Od.insert p.m p.o a b).2.2
  · exact edge_cycle p a b w hp ha hb hab h1 h2 h3 hT
  · exact edge_yes p a b w hp ha hb hab h1 h2 h3 hT
end Go.Proofs.YtfdfiiocccafkaaGreatDoor
namespace Go.Proofs.YtfdfiiocccafkaaGreatDoor
open Go.RowKit
attribute [local go_sem ↓] Go.wp_at_zero Go.wp_at_succ
theorem results_pool2 {fn : Func} {c u v : Tmp} {ty : TypeId} (h : fn.results = #[.cell c ty, .tmp u, .tmp v]) (tmps : Array Value) (w : World) (g : Nat) (t : TypeId) (p : Pl) (d : TypeDesc) (x y : Value)
    (hp : tmps.getD c undef = .pointer (some ⟨g, 0, none⟩)) (hx : tmps.getD u undef = x) (hy : tmps.getD v undef = y) (hg : PoolAt w g p t)
    (hu : Tryz.prog.underlying ty = some d) (hd : d.isRow = true) (hi : (Tryz.prog.info? ty).map (·.size) = some 100) :
    (results fn tmps).run Tryz.prog w = .ok (.tuple #[.agg (poolA p), x, y]) w := by
  have hp' : tmps[c]?.getD undef = .pointer (some ⟨g, 0, none⟩) := by simpa using hp
  have hx' : tmps[u]?.getD undef = x := by simpa using hx
  have hy' : tmps[v]?.getD undef = y := by simpa using hy
  simp only [results, h]
  simp [hp', hx', hy', asAddr, Result.andThen, load_whole w g p t ty d hg hu hd hi]
theorem Own.setCells {base : Nat} {v : Value} {l : List Nat} (b : Nat) (hb : b < base) : ∀ (vs : List Value) (o : Nat) (w : World), Own w base v l → Own (w.setCells b o vs) base v l
  | [], _, _, h => h
  | _ :: r, o, _, h => Own.setCells b hb r (o + 1) _ (h.setCell _ _ hb)
theorem store_mQ {ops : Array Oper} {rest : List Oper} {op : Oper} {a : Act} {W : World} {Q : Exit → Act → World → Prop} (hgd : op.guard = none) (ty : TypeId) (x y : Operand) (ho : op.op = .store ty x y) (hds : op.dst = none)
    (w : World) (p q : Pl) (n : Mm.Gr) (t : Nat) (hx : a.eval x = .pointer (some ⟨w.heap.size, 1, none⟩)) (hy : a.eval y = .agg (matA n)) (h : QSt p t w q W) (hi : (Tryz.prog.info? ty).map (·.size) = some 32)
    (hK : ∀ W', QSt { p with m := n } t w q W' → (∀ base v l, w.heap.size < base → Own W base v l → Own W' base v l) → (∀ k, k ≠ w.heap.size → W'.heap[k]? = W.heap[k]?) → wpList Tryz.prog ops Q rest a W') : wpList Tryz.prog ops Q (op :: rest) a W :=
  store_m hgd ty x y ho hds w.heap.size p n t hx hy h.po hi (hK _ (h.put_m n) (fun _ _ _ hb ho => Own.setCells _ hb _ _ _ ho) (fun _ hk => heap_setCells_other _ _ hk _ _ _))
theorem store_oQ {ops : Array Oper} {rest : List Oper} {op : Oper} {a : Act} {W : World} {Q : Exit → Act → World → Prop} (hgd : op.guard = none) (ty : TypeId) (x y : Operand) (ho : op.op = .store ty x y) (hds : op.dst = none)
    (w : World) (p q : Pl) (n : Od.O) (t : Nat) (hx : a.eval x = .pointer (some ⟨w.heap.size, 33, none⟩)) (hy : a.eval y = .agg (ordA n)) (h : QSt p t w q W) (hi : (Tryz.prog.info? ty).map (·.size) = some 32)
    (hK : ∀ W', QSt { p with o := n } t w q W' → (∀ base v l, w.heap.size < base → Own W base v l → Own W' base v l) → (∀ k, k ≠ w.heap.size → W'.heap[k]? = W.heap[k]?) → wpList Tryz.prog ops Q rest a W') : wpList Tryz.prog ops Q (op :: rest) a W :=
  store_o hgd ty x y ho hds w.heap.size p n t hx hy h.po hi (hK _ (h.put_o n) (fun _ _ _ hb ho => Own.setCells _ hb _ _ _ ho) (fun _ hk => heap_setCells_other _ _ hk _ _ _))
theorem ff_val (p : Pl) (v : Int) (w : World) (hp : p.Ok) (h : ffV p = v) : Calls Tryz.prog 115 #[.agg (poolA p)] w fun e w' => e = .returned (.int .i64 v) ∧ Below w.heap.size w w' := by
  have := firstFree_any p w hp
  rw [h] at this; exact this
set_option maxHeartbeats 1000000 in
set_option maxRecDepth 100000 in
theorem begin_full (p : Pl) (w : World) (hp : p.Ok) (hf : Po.ff p = none) :
    Calls Tryz.prog 74 #[.agg (poolA p)] w fun e w' => e = .returned (.tuple #[.agg (poolA p), .int .i64 0, .int .i64 4]) ∧ Below w.heap.size w w' := by
  have hz := (zero_of_info zero_pool_info).1
  have H0 := Lib.hid (qst_first p 87 w)
  have HP := Lib.hid hp
  have HV := Lib.hid (show ffV p = -1 by unfold ffV; rw [hf])
  clear hp hf
  go_enter Tryz.func74, Tryz.ntmps74
  go_wp2_with (refine load_pool rfl 87 (.tmp 1) rfl w.heap.size p 87 rfl _ H0.out.po Tryz.underlying87 rfl pool_info ?_)
  refine (ff_val p _ _ HP.out HV.out).mono ?_
  rintro e w1 ⟨rfl, hb1⟩
  have H1 := Lib.hid (H0.out.below hb1)
  clear hb1 H0
  go_wp2_with (first
    | (refine load_pool rfl 87 (.tmp 1) rfl w.heap.size p 87 rfl _ H1.out.po Tryz.underlying87 rfl pool_info ?_)
    | (refine store_pool rfl 87 (.tmp 2) (.tmp 12) rfl rfl (w.heap.size + 1) _ p 87 rfl rfl H1.out.re pool_info ?_))
  refine bodyPost_ret (results_pool2 rfl _ _ (w.heap.size + 1) 87 p _ (.int .i64 0) (.int .i64 4) rfl rfl rfl (H1.out.tell p).re Tryz.underlying87 rfl pool_info) rfl ⟨rfl, (H1.out.tell p).bel⟩
noncomputable def begTo (p : Pl) (s k : Nat) : Pl := Po.over (Po.opened p s) (Po.insAll s ((Sm.items p.done).take k) (p.m, p.o))
structure BSt (p : Pl) (s : Nat) (w : World) (base : Nat) (v : Value) (k : Nat) (W : World) : Prop where
  st : QSt (begTo p s k) 87 w zeroP W
  row : Own W base v (Sm.items p.done)
  lt : w.heap.size < base
theorem BSt.below {p : Pl} {s : Nat} {w : World} {base : Nat} {v : Value} {k : Nat} {W W' : World} (h : BSt p s w base v k W) (hb : Below W.heap.size W W') : BSt p s w base v k W' :=
  ⟨h.st.below hb, h.row.below hb (Nat.le_refl _), h.lt⟩
def BegRel (p : Pl) (s : Nat) (w : World) (base : Nat) (v : Value) (i : Value) (wr : World) : Prop :=
  ∃ k : Nat, k ≤ (Sm.items p.done).length ∧ i = .int .i64 k ∧ BSt p s w base v k wr
theorem begTo_ok {p : Pl} (hp : p.Ok) (s k : Nat) : Mm.Ok (begTo p s k).m ∧ Od.Ok (begTo p s k).o := by
  have key : ∀ (l : List Nat) (x : Mm.Gr × Od.O), Mm.Ok x.1 → Od.Ok x.2 → Mm.Ok (Po.insAll s l x).1 ∧ Od.Ok (Po.insAll s l x).2 := by
    intro l
    induction l with
    | nil => intro x h1 h2; exact ⟨h1, h2⟩
    | cons c r ih => intro x h1 h2; exact ih _ (Od.insert_ok _ _ h1) (Od.insert_okO _ _ h2)
  exact key _ _ hp.m hp.o
theorem begTo_step {p : Pl} {s k j : Nat} (h : (Sm.items p.done)[k]? = some j) :
    begTo p s (k + 1) = { begTo p s k with m := (Od.insert (begTo p s k).m (begTo p s k).o (j : Nat) (s : Nat)).1, o := (Od.insert (begTo p s k).m (begTo p s k).o (j : Nat) (s : Nat)).2.1 } := by
  obtain ⟨hl, rfl⟩ := List.getElem?_eq_some_iff.1 h
  unfold begTo
  rw [List.take_succ_eq_append_getElem hl, Po.insAll_snoc]
  rfl
set_option maxHeartbeats 2000000 in
set_option maxRecDepth 100000 in
theorem begin_some (p : Pl) (s : Nat) (w : World) (hp : p.Ok) (hc : p.count < 9223372036854775807) (hf : Po.ff p = some s) (hT : TabAt w) :
    Calls Tryz.prog 74 #[.agg (poolA p)] w fun e w' => e = .returned (.tuple #[.agg (poolA (Po.begun p s)), .int .i64 (s : Nat), .int .i64 0]) ∧ Below w.heap.size w w' := by
  have hz := (zero_of_info zero_pool_info).1
  have H0 := Lib.hid (qst_first p 87 w)
  have HP := Lib.hid hp
  have HT := Lib.hid hT
  have hs := (Po.ff_spec hf).1
  have HV := Lib.hid (show ffV p = (s : Int) by unfold ffV; rw [hf])
  have hc0 := hp.count.1
  clear hp hf hT
  go_enter Tryz.func74, Tryz.ntmps74
  go_wp2_with (refine load_pool rfl 87 (.tmp 1) rfl w.heap.size p 87 rfl _ H0.out.po Tryz.underlying87 rfl pool_info ?_)
  refine (ff_val p _ _ HP.out HV.out).mono ?_
  rintro e w1 ⟨rfl, hb1⟩
  have H1 := Lib.hid (H0.out.below hb1)
  clear hb1 H0
  have c1 := H1.out.po.live_
  have f1 := H1.out.po.frozen 65
  have hsn : ((s : Int) == -1) = false := by simp
  go_wp2_with fail
  refine (with_any p.live (s : Nat) _ HP.out.live (by omega) (by omega)).mono ?_
  rintro e w' ⟨rfl, rfl⟩
  have H2 := Lib.hid (H1.out.put_live (Sm.add p.live (s : Nat)))
  have c2 := H2.out.po.count_
  have f2 := H2.out.po.frozen 99
  have H3 := Lib.hid (H2.out.put_count (p.count + 1))
  have c3 := H3.out.po.count_
  have f3 := H3.out.po.frozen (67 + s)
  have c3' := H3.out.po.id_ s hs
  have H4 := Lib.hid (H3.out.put_id s hs (p.count + 1))
  have c4 := H4.out.po.done_
  go_wp2_with fail
  refine (items_any p.done _ HP.out.done (tab_keep HT.out H4.out.bel)).mono ?_
  generalize ((w1.setCell ⟨w.heap.size, 65, none⟩ (.int .u64 (Sm.add p.live (s : Nat) : Nat))).setCell ⟨w.heap.size, 99, none⟩ (.int .i64 (p.count + 1))).setCell ⟨w.heap.size, 67 + s, none⟩ (.int .i64 (p.count + 1)) = w2 at *
  rintro e w3 ⟨v, rfl, hown, hb3⟩
  have H5 := Lib.hid (show BSt p s w w2.heap.size v 0 w3 from ⟨H4.out.below hb3, hown, H4.out.po.lt⟩)
  have hlen := Sm.items_len p.done
  obtain ⟨A, c, rfl, hc1, hc2⟩ := Own.shape H5.out.row
  clear hb3 hown c1 f1 c2 f2 c3 f3 c3' c4 H1 H2 H3 H4
  go_wp2
  go_loopw [31] (BegRel p s w w2.heap.size (.slice A (Sm.items p.done).length c)) (fun i _ => 64 - (intOf i).toNat)
  case atStart => exact ⟨0, by omega, rfl, H5.out⟩
  case round =>
    obtain ⟨k, hk, rfl, hst⟩ := hrel
    have HS := Lib.hid hst
    by_cases hnl : k < (Sm.items p.done).length
    · obtain ⟨g, rfl, hc⟩ := hst.row.at_ hnl
      have hj := Sm.items_lt (List.getElem_mem hnl)
      have HJ := Lib.hid (List.getElem?_eq_getElem hnl)
      generalize (Sm.items p.done)[k] = j at *
      have HE := Lib.hid (begTo_step (s := s) HJ.out)
      have HK := Lib.hid (begTo_ok HP.out s k)
      clear hst
      go_wp2_with (first
        | (refine load_m rfl 84 (.tmp 36) rfl w.heap.size _ 87 rfl _ HS.out.st.po Tryz.underlying84 rfl mat_info ?_)
        | (refine load_o rfl 85 (.tmp 38) rfl w.heap.size _ 87 rfl _ HS.out.st.po Tryz.underlying85 rfl ord_info ?_))
      refine (insert_any _ _ (j : Nat) (s : Nat) _ HK.out.1 HK.out.2 (by omega) (by omega) (tab_keep HT.out HS.out.st.bel)).mono ?_
      rintro e w4 ⟨rfl, hb4⟩
      have HS4 := Lib.hid (HS.out.below hb4)
      clear hb4 HS hc
      generalize hX : (Od.insert (begTo p s k).m (begTo p s k).o (j : Nat) (s : Nat)).1 = X at *
      generalize hO : (Od.insert (begTo p s k).m (begTo p s k).o (j : Nat) (s : Nat)).2.1 = O at *
      generalize (Od.insert (begTo p s k).m (begTo p s k).o (j : Nat) (s : Nat)).2.2 = b at *
      clear hX hO
      go_wp2_with (first
        | (refine store_mQ rfl 84 (.tmp 46) (.tmp 43) rfl rfl w _ _ X 87 rfl rfl HS4.out.st mat_info ?_; intro w5 h5 o5 _; have H5 := Lib.hid h5; have O5 := Lib.hid (o5 _ _ _ HS4.out.lt HS4.out.row); clear h5 o5)
        | (refine store_oQ rfl 85 (.tmp 47) (.tmp 44) rfl rfl w _ _ O 87 rfl rfl H5.out ord_info ?_; intro w6 h6 o6 _; have H6 := Lib.hid h6; have O6 := Lib.hid (o6 _ _ _ HS4.out.lt O5.out); clear h6 o6))
      refine ⟨⟨k + 1, by omega, by go_num, ?_, O6.out, HS4.out.lt⟩, by simp [intOf]; omega⟩
      rw [HE.out]; exact H6.out
    · obtain rfl : k = (Sm.items p.done).length := by omega
      clear hst
      have HE := Lib.hid (show begTo p s (Sm.items p.done).length = Po.begun p s by unfold begTo; rw [List.take_length]; rfl)
      have HQ := Lib.hid (show QSt (Po.begun p s) 87 w zeroP wr by rw [← HE.out]; exact HS.out.st)
      clear HS HE
      go_wp2_with (first
        | (refine load_pool rfl 87 (.tmp 1) rfl w.heap.size (Po.begun p s) 87 rfl _ HQ.out.po Tryz.underlying87 rfl pool_info ?_)
        | (refine store_pool rfl 87 (.tmp 2) (.tmp 49) rfl rfl (w.heap.size + 1) _ (Po.begun p s) 87 rfl rfl HQ.out.re pool_info ?_))
      refine bodyPost_ret (results_pool2 rfl _ _ (w.heap.size + 1) 87 (Po.begun p s) _ (.int .i64 (s : Nat)) (.int .i64 0) rfl rfl rfl (HQ.out.tell _).re Tryz.underlying87 rfl pool_info) rfl ⟨rfl, (HQ.out.tell _).bel⟩
theorem begin_any (p : Pl) (w : World) (hp : p.Ok) (hc : p.count < 9223372036854775807) (hT : TabAt w) :
    Calls Tryz.prog 74 #[.agg (poolA p)] w fun e w' => e = .returned (.tuple #[.agg (poolA (Po.begin p).1), .int .i64 (Po.begin p).2.1, .int .i64 (Po.begin p).2.2]) ∧ Below w.heap.size w w' := by
  unfold Po.begin
  cases hf : Po.ff p with
  | none => exact begin_full p w hp hf
  | some s => exact begin_some p s w hp hc hf hT
end Go.Proofs.YtfdfiiocccafkaaGreatDoor
namespace Go.Proofs.YtfdfiiocccafkaaGreatDoor
open Go.RowKit
attribute [local go_sem ↓] Go.wp_at_zero Go.wp_at_succ
theorem index_ids (o : Od.O) (k : Nat) (h : k < 32) (w : World) : (Instr.index 49 (.agg (ordA o)) (.int .i64 (k : Nat))).run Tryz.prog w = .ok (.int .i64 (o k)) w := by
  have h1 : 0 ≤ (k : Int) ∧ (k : Int) < ((32 : Nat) : Int) := by omega
  simp only [Instr.index, asIntOf, Sem.run_bind, Sem.run_pure, Result.andThen_ok, run_underlying Tryz.underlying49, h1, size_int, Int.toNat_natCast, Nat.mul_one, run_part_plain w plain_int (ordA_get o k h), and_self, if_true]
def goV : Option Nat → Int | some s => (s : Int) | none => -1
def GoRel (p : Pl) (t : Nat) (w : World) (f i : Value) (wr : World) : Prop :=
  ∃ k : Nat, k ≤ 32 ∧ i = .int .i64 k ∧ f = .int .i64 (goV (Po.bestTo p k)) ∧ PSt p t w wr
theorem best_no {p : Pl} {k : Nat} (h : Po.goable p k = false) : Po.bestTo p (k + 1) = Po.bestTo p k := by rw [Po.bestTo, h]; rfl
theorem best_yes {p : Pl} {k : Nat} (h : Po.goable p k = true) (h2 : Po.better p k (Po.bestTo p k) = true) : Po.bestTo p (k + 1) = some k := by rw [Po.bestTo, h, h2]; rfl
theorem best_not {p : Pl} {k : Nat} (h2 : Po.better p k (Po.bestTo p k) = false) : Po.bestTo p (k + 1) = Po.bestTo p k := by rw [Po.bestTo, h2, Bool.and_false]; rfl
theorem has_nat_val (x k : Nat) (b : Bool) (w : World) (hx : x < 18446744073709551616) (hk : k < 64) (h : x.testBit k = b) :
    Calls Tryz.prog 133 #[.int .u64 x, .int .i64 (k : Nat)] w fun e w' => e = .returned (.bool b) ∧ w = w' :=
  hasI_val x (k : Nat) b w hx (by omega) (by omega) (by rw [Sm.has_nat _ hx]; exact h)
theorem ins_val (m : Mm.Gr) (a x : Nat) (w : World) (hm : Mm.Ok m) (ha : a < 32) (h : Mm.ins m a = x) :
    Calls Tryz.prog 154 #[.agg (matA m), .int .i64 (a : Nat)] w fun e w' => e = .returned (.int .u64 (x : Nat)) ∧ Below w.heap.size w w' := by
  have := ins_in m a w hm ha
  rw [h] at this; exact this
set_option maxHeartbeats 2000000 in
set_option maxRecDepth 100000 in
theorem firstToGo_any (p : Pl) (w : World) (hp : p.Ok) :
    Calls Tryz.prog 161 #[.agg (poolA p)] w fun e w' => e = .returned (.int .i64 (goV (Po.next p))) ∧ Below w.heap.size w w' := by
  have H0 := Lib.hid (pst_first p 87 w)
  have HP := Lib.hid hp
  clear hp
  go_enter Tryz.func161, Tryz.ntmps161
  go_wp2_with (refine load_ids rfl 49 (.tmp 6) rfl w.heap.size p 87 rfl _ H0.out.po Tryz.underlying49 rfl ints_info ?_)
  go_loopw [3, 8] (GoRel p 87 w) (fun _ i _ => 32 - (intOf i).toNat)
  case atStart => exact ⟨0, by omega, rfl, rfl, H0.out⟩
  case round =>
    obtain ⟨k, hk, rfl, rfl, hst⟩ := hrel
    have HS := Lib.hid hst
    clear hst
    by_cases hlt : k < 32
    · have hix := index_ids p.ids k hlt
      have hc := HS.out.po.done_
      cases hd : p.done.testBit k
      · have HD := Lib.hid hd
        have HG := Lib.hid (best_no (show Po.goable p k = false by unfold Po.goable; rw [hd]; rfl))
        clear hd
        go_wp2_with fail
        refine (has_nat_val p.done k false _ HP.out.done (by omega) HD.out).mono ?_
        rintro e w' ⟨rfl, rfl⟩
        go_wp2
        exact ⟨⟨k + 1, by omega, by go_num, by rw [HG.out], HS.out⟩, by simp [intOf]; omega⟩
      · have HD := Lib.hid hd
        clear hd
        go_wp2_with fail
        refine (has_nat_val p.done k true _ HP.out.done (by omega) HD.out).mono ?_
        rintro e w' ⟨rfl, rfl⟩
        go_wp2_with (refine load_m rfl 84 (.tmp 18) rfl w.heap.size p 87 rfl _ HS.out.po Tryz.underlying84 rfl mat_info ?_)
        by_cases hi : Mm.ins p.m k = 0
        · have HG := Lib.hid (show Po.goable p k = true by unfold Po.goable; rw [HD.out, hi]; rfl)
          refine (ins_val p.m k 0 _ HP.out.m hlt hi).mono ?_
          rintro e w2 ⟨rfl, hb2⟩
          have HS2 := Lib.hid (HS.out.below hb2)
          clear hb2 HS hc hi
          cases hb : Po.bestTo p k with
          | none =>
            have HB := Lib.hid (best_yes HG.out (show Po.better p k (Po.bestTo p k) = true by rw [hb]; rfl))
            clear hb
            simp only [goV]
            go_wp2
            exact ⟨⟨k + 1, by omega, by go_num, by rw [HB.out]; rfl, HS2.out⟩, by simp [intOf]; omega⟩
          | some f =>
            have hf : f < 32 := by have := (Po.bestTo_spec hb).1; omega
            have c1 := HS2.out.po.id_ f hf
            by_cases hlt2 : p.ids k < p.ids f
            · have HB := Lib.hid (best_yes HG.out (show Po.better p k (Po.bestTo p k) = true by rw [hb]; simp [Po.better, hlt2]))
              clear hb
              simp only [goV]
              go_wp2
              exact ⟨⟨k + 1, by omega, by go_num, by rw [HB.out]; rfl, HS2.out⟩, by simp [intOf]; omega⟩
            · have HB := Lib.hid (best_not (show Po.better p k (Po.bestTo p k) = false by rw [hb]; simp [Po.better]; omega))
              have HB2 := Lib.hid hb
              clear hb
              simp only [goV]
              go_wp2
              exact ⟨⟨k + 1, by omega, by go_num, by rw [HB.out, HB2.out]; rfl, HS2.out⟩, by simp [intOf]; omega⟩
        · have HG := Lib.hid (best_no (show Po.goable p k = false by unfold Po.goable; rw [decide_eq_false hi, Bool.and_false]))
          have hne : (((Mm.ins p.m k : Nat) : Int) != 0) = true := by simpa using hi
          refine (ins_val p.m k _ _ HP.out.m hlt rfl).mono ?_
          rintro e w2 ⟨rfl, hb2⟩
          have HS2 := Lib.hid (HS.out.below hb2)
          clear hb2 HS hc hi
          go_wp2
          exact ⟨⟨k + 1, by omega, by go_num, by rw [HG.out], HS2.out⟩, by simp [intOf]; omega⟩
    · obtain rfl : k = 32 := by omega
      go_wp2
      go_ret
      exact ⟨rfl, HS.out.bel⟩
end Go.Proofs.YtfdfiiocccafkaaGreatDoor
namespace Go.Proofs.YtfdfiiocccafkaaGreatDoor
open Go.RowKit
attribute [local go_sem ↓] Go.wp_at_zero Go.wp_at_succ
/-- v is a row of these whole numbers, made behind base. -/
def OwnI (w : World) (base : Nat) (v : Value) (l : List Int) : Prop := w.ownsRow base 3 1 v l.length (l.map (Value.int .i64))
theorem OwnI.below {w w' : World} {base B : Nat} {v : Value} {l : List Int} (h : OwnI w base v l) (hb : Below B w w') (hB : w.heap.size ≤ B) : OwnI w' base v l := by
  refine ⟨h.1, ?_⟩
  rcases h.2 with hn | ⟨g, cap, cur, hv, hbase, hg, rest⟩
  · exact .inl hn
  · have : g < w.heap.size := (Array.getElem?_eq_some_iff.1 hg).1
    exact .inr ⟨g, cap, cur, hv, hbase, (hb.block g (by omega)).trans hg, rest⟩
theorem OwnI.same {w w' : World} {base b : Nat} {v : Value} {l : List Int} (h : OwnI w base v l) (hb : b < base) (hk : ∀ k, k ≠ b → w'.heap[k]? = w.heap[k]?) : OwnI w' base v l := by
  refine ⟨h.1, ?_⟩
  rcases h.2 with hn | ⟨g, cap, cur, hv, hbase, hg, rest⟩
  · exact .inl hn
  · exact .inr ⟨g, cap, cur, hv, hbase, (hk g (by omega)).trans hg, rest⟩
theorem OwnI.setCell {w : World} {base : Nat} {v : Value} {l : List Int} (h : OwnI w base v l) (a : Addr) (u : Value) (ha : a.block < base) : OwnI (w.setCell a u) base v l :=
  h.same ha fun k hk => Below.heap_setCell w a u k hk
theorem OwnI.setRow {w : World} {base b : Nat} {v : Value} {l : List Int} (h : OwnI w base v l) (cs : Array Value) (ha : b < base) : OwnI (w.setRow b cs) base v l :=
  h.same ha fun k hk => setRow_other w b k cs hk
theorem OwnI.mono {w : World} {base base' : Nat} {v : Value} {l : List Int} (h : OwnI w base v l) (hb : base' ≤ base) : OwnI w base' v l := by
  refine ⟨h.1, ?_⟩
  rcases h.2 with hn | ⟨g, cap, cur, hv, hbase, hg, rest⟩
  · exact .inl hn
  · exact .inr ⟨g, cap, cur, hv, by omega, hg, rest⟩
theorem ownI_nil (w : World) (base : Nat) : OwnI w base (.slice none 0 0) [] := World.ownsRow_nil _ _ _ _
theorem OwnI.shape {w : World} {base : Nat} {v : Value} {l : List Int} (h : OwnI w base v l) : ∃ A c, v = .slice A l.length c ∧ l.length ≤ c ∧ c ≤ 9223372036854775807 := by
  rcases h.2 with ⟨rfl, h0⟩ | ⟨g, cap, cur, rfl, _, _, h1, h2, _⟩
  · exact ⟨none, 0, by rw [h0], by omega, by omega⟩
  · unfold maxLen at h2
    exact ⟨_, _, rfl, h1, by omega⟩
theorem OwnI.at_ {w : World} {base : Nat} {A : Option Addr} {n c : Nat} {l : List Int} (h : OwnI w base (.slice A n c) l) {k : Nat} (hk : k < l.length) :
    ∃ g, A = some ⟨g, 0, none⟩ ∧ w.cell? ⟨g, k, none⟩ = some (.int .i64 l[k]) := by
  obtain ⟨g, cap, hv, _, hlt⟩ := h.form (by omega)
  have hA : A = some ⟨g, 0, none⟩ := by injection hv
  subst hA
  refine ⟨g, rfl, ?_⟩
  have := h.cells (g := g) rfl k (.int .i64 l[k]) (by simp [List.getElem?_eq_getElem hk])
  rwa [addr_at] at this
theorem QSt.below2 {p q : Pl} {t : Nat} {w W W' : World} (h : QSt p t w q W) (hb : Below (w.heap.size + 2) W W') : QSt p t w q W' :=
  ⟨(hb.block _ (by omega)).trans h.po, (hb.block _ (by omega)).trans h.re, h.bel.trans (hb.mono (by omega))⟩
theorem going_ok {p : Pl} (hp : p.Ok) (s : Nat) : (Po.going p s).Ok :=
  ⟨hp.size, Mm.cut_ok s hp.m, hp.o, hp.live, Sm.less_lt _ hp.done, fun i hi => by
    show _ ≤ Od.upd p.ids s 0 i ∧ Od.upd p.ids s 0 i ≤ _
    unfold Od.upd
    have := hp.ids i hi
    split <;> omega, hp.count⟩
theorem go_val (p : Pl) (v : Int) (w : World) (hp : p.Ok) (h : goV (Po.next p) = v) : Calls Tryz.prog 161 #[.agg (poolA p)] w fun e w' => e = .returned (.int .i64 v) ∧ Below w.heap.size w w' := by
  have := firstToGo_any p w hp
  rw [h] at this; exact this
def CollPost (p : Pl) (w : World) (e : Ending) (w' : World) : Prop :=
  ∃ v, e = .returned (.tuple #[.agg (poolA (Po.collect p).1), v]) ∧ OwnI w' (w.heap.size + 2) v (Po.collect p).2 ∧ Below w.heap.size w w'
/-- how it stands at the label: what is left to go, and what went. -/
structure CSt (p : Pl) (t : Nat) (w : World) (c : Pl) (l : Value) (went : List Int) (W : World) : Prop where
  st : QSt c t w zeroP W
  row : OwnI W (w.heap.size + 2) l went
  ok : c.Ok
  res : (Po.collect c).1 = (Po.collect p).1
  list : went ++ (Po.collect c).2 = (Po.collect p).2
  len : (Po.collect p).2.length ≤ 64
theorem CSt.below {p c : Pl} {t : Nat} {w W W' : World} {l : Value} {went : List Int} (h : CSt p t w c l went W) (hb : Below W.heap.size W W') : CSt p t w c l went W' :=
  ⟨h.st.below hb, h.row.below hb (Nat.le_refl _), h.ok, h.res, h.list, h.len⟩
def CollJ (p : Pl) (w : World) (a' : Act) (w' : World) : Prop :=
  ∃ (c : Pl) (l : Value) (went : List Int) (u5 u6 u7 u8 u9 u10 u11 u12 u13 u14 u15 u16 u17 u18 u19 u20 u21 u22 u23 u24 u25 u26 u27 u28 u29 u30 u31 : Value),
    a' = { tmps := #[.agg (poolA p), .pointer (some ⟨w.heap.size, 0, none⟩), .pointer (some ⟨w.heap.size + 1, 0, none⟩), .slice none 0 0, l, u5, u6, u7, u8, u9, u10, u11, u12, u13, u14, u15, u16, u17, u18, u19, u20, u21, u22, u23, u24, u25, u26, u27, u28, u29, u30, u31], defers := [] } ∧
    CSt p 87 w c l went w'
theorem less_val' (x k : Nat) (w : World) (hx : x < 18446744073709551616) (hk : k < 64) :
    Calls Tryz.prog 81 #[.int .u64 x, .int .i64 (k : Nat)] w fun e w' => e = .returned (.int .u64 (Sm.less x (k : Nat) : Nat)) ∧ w = w' := less_val x k _ w hx hk rfl
theorem coll_len (p : Pl) (hp : p.Ok) : (Po.collect p).2.length ≤ 64 := Nat.le_trans (Po.collect_len p hp.done) (Sm.items_len p.done)
def doneOf (w : World) (w' : World) : Nat := Sm.count (intOf ((w'.cell? ⟨w.heap.size, 66, none⟩).getD undef)).toNat
theorem doneOf_st {p q : Pl} {t : Nat} {w W : World} (h : QSt p t w q W) : doneOf w W = Sm.count p.done := by unfold doneOf; rw [h.po.done_]; simp [intOf]
set_option maxHeartbeats 4000000 in
set_option maxRecDepth 100000 in
theorem collect_any (p : Pl) (w : World) (hp : p.Ok) : Calls Tryz.prog 134 #[.agg (poolA p)] w (CollPost p w) := by
  obtain ⟨i0, hi, hz0, hz1, hz2⟩ := info_parts int_info
  have hz := (zero_of_info zero_pool_info).1
  have H0 := Lib.hid (show CSt p 87 w p (.slice none 0 0) [] _ from ⟨qst_first p 87 w, ownI_nil _ _, hp, rfl, rfl, coll_len p hp⟩)
  clear hp
  go_enter Tryz.func134, Tryz.ntmps134
  go_wp2
  refine wp_scope_jumps3 0 (CollJ p w) (fun _ w' => doneOf w w') rfl ?_ ?_
  · intro hk
    have HK := Lib.hid hk
    clear hk
    go_wp2
    go_step3
    rename_i hK
    apply hK
    exact HK.out _ _ ⟨p, _, [], _, _, _, _, _, _, _, _, _, _, _, _, _, _, _, _, _, _, _, _, _, _, _, _, _, _, _, rfl, H0.out⟩
  · rintro a' wr ⟨c, l, went, u5, u6, u7, u8, u9, u10, u11, u12, u13, u14, u15, u16, u17, u18, u19, u20, u21, u22, u23, u24, u25, u26, u27, u28, u29, u30, u31, rfl, hst⟩
    have HS := Lib.hid hst
    clear hst
    cases hn : Po.next c with
    | none =>
      have HN := Lib.hid (show goV (Po.next c) = -1 by rw [hn]; rfl)
      have HC := Lib.hid (Po.collect_none hn)
      clear hn
      go_wp2_with (refine load_pool rfl 87 (.tmp 1) rfl w.heap.size c 87 rfl _ HS.out.st.po Tryz.underlying87 rfl pool_info ?_)
      refine (go_val c _ _ HS.out.ok HN.out).mono ?_
      rintro e w1 ⟨rfl, hb1⟩
      have HS1 := Lib.hid (HS.out.below hb1)
      clear hb1 HS
      go_wp2_with (first
        | (refine load_pool rfl 87 (.tmp 1) rfl w.heap.size c 87 rfl _ HS1.out.st.po Tryz.underlying87 rfl pool_info ?_)
        | (refine store_pool rfl 87 (.tmp 2) (.tmp 10) rfl rfl (w.heap.size + 1) _ c 87 rfl rfl HS1.out.st.re pool_info ?_))
      simp only [Exit.jump]
      refine bodyPost_ret (results_pool rfl _ _ (w.heap.size + 1) 87 c _ l rfl rfl (HS1.out.st.tell c).re Tryz.underlying87 rfl pool_info) rfl ?_
      refine ⟨l, ?_, ?_, (HS1.out.st.tell c).bel⟩
      · rw [← HS1.out.res, HC.out]
      · rw [← HS1.out.list, HC.out, List.append_nil]
        exact HS1.out.row.setRow _ (by omega)
    | some s =>
      have hs := (Po.next_spec hn).1
      have hlen : went.length ≤ 64 := by have := HS.out.len; rw [← HS.out.list, List.length_append] at this; omega
      have HN := Lib.hid (show goV (Po.next c) = (s : Int) by rw [hn]; rfl)
      have HC := Lib.hid (Po.collect_some HS.out.ok.done hn)
      have HD := Lib.hid (Po.count_less HS.out.ok.done (by omega) (Po.next_spec hn).2.1)
      have hsn : ((s : Int) == -1) = false := by simp
      clear hn
      go_wp2_with (refine load_pool rfl 87 (.tmp 1) rfl w.heap.size c 87 rfl _ HS.out.st.po Tryz.underlying87 rfl pool_info ?_)
      refine (go_val c _ _ HS.out.ok HN.out).mono ?_
      rintro e w1 ⟨rfl, hb1⟩
      have HS1 := Lib.hid (HS.out.below hb1)
      have HM := Lib.hid (show doneOf w wr = Sm.count c.done from doneOf_st HS.out.st)
      clear hb1 HS
      have hid := HS1.out.st.po.id_ s hs
      have hre := HS1.out.st.re.lt
      go_wp2_with (at_builtin; refine wpList_append_own _ rfl _ _ 107 rfl (w.heap.size + 2) 3 i0 (.int .i64 0) 1 8 Tryz.underlying107 hi hz0 hz1 hz2 rfl (by decide) _ _ _ rfl (World.ownsRow.alloc HS1.out.row _) ⟨w1.heap.size, 0, none⟩ 1 1 [.int .i64 (c.ids s)] rfl rfl ?c1 ?c2 ?c3 ?c4 ?c5 ?_)
      case c1 =>
        intro j u hj
        match j, hj with
        | 0, hj => simp at hj; subst hj; simp [Addr.add]
      case c2 => intro u hu; simp at hu; subst hu; rfl
      case c3 => unfold maxLen; omega
      case c4 => omega
      case c5 => simp; omega
      intro v' w2 hown' hgrow _
      have HO := Lib.hid (show OwnI w2 (w.heap.size + 2) v' (went ++ [c.ids s]) by unfold OwnI; rw [List.length_append, List.map_append]; exact hown')
      have hb2 : Below (w.heap.size + 2) w1 w2 := ((Below.refl (w.heap.size + 2) w1).alloc (by omega) _).grown hgrow (by simp; omega) (fun k hk => (World.ownsRow.lt HS1.out.row k hk).1)
      have H2 := Lib.hid (HS1.out.st.below2 hb2)
      have HOk := Lib.hid HS1.out.ok
      have HR := Lib.hid HS1.out.res
      have HL := Lib.hid HS1.out.list
      have HLn := Lib.hid HS1.out.len
      clear hown' hgrow hb2 HS1 hid
      go_wp2_with (refine load_m rfl 84 (.tmp 19) rfl w.heap.size c 87 rfl _ H2.out.po Tryz.underlying84 rfl mat_info ?_)
      refine (cut_in c.m s _ HOk.out.m hs).mono ?_
      rintro e w3 ⟨rfl, hb3⟩
      have H3 := Lib.hid (H2.out.below hb3)
      have HO3 := Lib.hid (HO.out.below hb3 (Nat.le_refl _))
      clear hb3 H2 HO
      go_wp2_with (refine store_mQ rfl 84 (.tmp 23) (.tmp 22) rfl rfl w _ _ (Mm.cut c.m s) 87 rfl rfl H3.out mat_info ?_; intro w4 h4 _ k4; have H4 := Lib.hid h4; have HO4 := Lib.hid (HO3.out.same (b := w.heap.size) (by omega) k4); have c4 := h4.po.done_; have f4 := h4.po.frozen 66; clear h4 k4)
      refine (less_val' c.done s _ HOk.out.done (by omega)).mono ?_
      rintro e w' ⟨rfl, rfl⟩
      have H5 := Lib.hid (H4.out.put_done (Sm.less c.done (s : Nat)))
      have c5 := H5.out.po.id_ s hs
      have f5 := H5.out.po.frozen (67 + s)
      have H6 := Lib.hid (H5.out.put_id s hs 0)
      go_wp2
      go_step3
      have H7 := Lib.hid (show QSt (Po.going c s) 87 w zeroP _ from H6.out)
      refine ⟨rfl, ⟨Po.going c s, v', went ++ [c.ids s], _, _, _, _, _, _, _, _, _, _, _, _, _, _, _, _, _, _, _, _, _, _, _, _, _, _, _, rfl, ⟨H7.out, (HO4.out.setCell _ _ (by simp)).setCell _ _ (by simp), going_ok HOk.out s, ?_, ?_, HLn.out⟩⟩, ?_⟩
      · rw [← HR.out, HC.out]
      · rw [← HL.out, HC.out, List.append_assoc]; rfl
      · rw [HM.out, doneOf_st H7.out]
        have := HD.out
        show Sm.count (Sm.less c.done (s : Nat)) < _
        omega
end Go.Proofs.YtfdfiiocccafkaaGreatDoor
