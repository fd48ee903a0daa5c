/-
  Two pools compared; a pool as the document holds it; two rows compared.
  The contract of the statements' own does: an act on a pool, and on the document's.
  The contract of the statements' own first look: the answers that the document fixes are given; nothing that was there is changed.
  Rows of acts in memory; a pool that is run by them.
-/
import Derived.Test.YtakoceablbgchaaDoorJPRef
import Derived.Test.YtakoceablbgchaaDoorJPool
namespace Go.Proofs.YtakoceablbgchaaDoor
open Go.RowKit
attribute [local go_sem ↓] Go.wp_at_zero Go.wp_at_succ
theorem part_row (w : World) {t n : Nat} {d : TypeDesc} (hu : Tryd.prog.underlying t = some d) (hd : d.isRow = true) (hi : (Tryd.prog.info? t).map (·.size) = some n) (cs ds : Array Value) (off : Nat) (h : cs.extract off (off + n) = ds) :
    (part t cs off).run Tryd.prog w = .ok (.agg ds) w := by
  have hagg : (isAgg t).run Tryd.prog w = .ok true w := by
    unfold isAgg
    rw [Sem.run_bind, run_underlying hu w]
    cases d <;> simp_all
  unfold part
  simp [Sem.run_bind, hagg, sz w hi, h]
theorem extract_eq {p : Pl} {off n : Nat} {ds : Array Value} (hs : ds.size = n) (hn : off + n ≤ 100) (h : ∀ j, j < n → ds[j]? = some (cellOf p (off + j))) : (poolA p).extract off (off + n) = ds := by
  apply Array.ext_getElem?
  intro i
  rw [Array.getElem?_extract, poolA_size]
  by_cases hi : i < n
  · rw [if_pos (by omega), poolA_get p _ (by omega), h i hi]
  · rw [if_neg (by omega), Array.getElem?_eq_none (by omega)]
theorem extract_m (p : Pl) : (poolA p).extract 1 (1 + 32) = matA p.m := extract_eq (matA_size _) (by omega) fun j hj => by rw [matA_get _ j hj, cell_m p j hj]
theorem extract_o (p : Pl) : (poolA p).extract 33 (33 + 32) = ordA p.o := extract_eq (ordA_size _) (by omega) fun j hj => by rw [ordA_get _ j hj, cell_o p j hj]
theorem extract_ids (p : Pl) : (poolA p).extract 67 (67 + 32) = ordA p.ids := extract_eq (ordA_size _) (by omega) fun j hj => by rw [ordA_get _ j hj, cell_ids p j hj]
theorem eqd_mat {t e : TypeId} (ht : Tryd.prog.underlying t = some (.array 32 e)) (he : Tryd.prog.plainKey e = true) (hu : Tryd.prog.underlying e = some (.int .u64)) (hc : Tryd.prog.cellsOf e = 1) (hi : (Tryd.prog.info? e).isSome = true) (m : Mm.Gr) (w : World) :
    (Op.equalIn 9999 t (.agg (matA m)) (.agg (matA m))).run Tryd.prog w = .ok true w := by
  obtain ⟨i, hi⟩ := Option.isSome_iff_exists.1 hi
  rw [run_equalIn_array w 9998 (matA m) (matA m) ht hi, hc, eqItems_mat w 9997 he hu m m _ (by simp)]
  simp
theorem eqd_ord {t : TypeId} (ht : Tryd.prog.underlying t = some (.array 32 3)) (o : Od.O) (w : World) :
    (Op.equalIn 9999 t (.agg (ordA o)) (.agg (ordA o))).run Tryd.prog w = .ok true w := by
  obtain ⟨i, hi⟩ := Option.isSome_iff_exists.1 info_int
  rw [run_equalIn_array w 9998 (ordA o) (ordA o) ht hi, cells_int, eqItems_ord w 9997 o o _ (by simp)]
  simp
theorem eqd_int {t : TypeId} {k : IntKind} (ht : Tryd.prog.underlying t = some (.int k)) (z : Int) (w : World) : (Op.equalIn 9999 t (.int k z) (.int k z)).run Tryd.prog w = .ok true w := by
  rw [run_equalIn_int w 9998 t k k z z ht]; simp
theorem eq_pool (p : Pl) (w : World) : (Op.equalIn 10000 31 (.agg (poolA p)) (.agg (poolA p))).run Tryd.prog w = .ok true w := by
  have hf : Tryd.prog.underlying 31 = some (.struct (Tryd.prog.fieldsOf 31)) := by unfold Program.fieldsOf; rw [Tryd.underlying31]
  rw [run_equalIn_struct w 9999 31 _ _ hf (by kernel_rfl)]
  simp only [Program.fieldsOf, Tryd.underlying31]
  have h0 := fun w => run_part_plain w plain_int (poolA_get p 0 (by decide))
  have h1 := fun w => part_row w Tryd.underlying27 rfl mat_info _ _ 1 (extract_m p)
  have h2 := fun w => part_row w Tryd.underlying29 rfl ord_info _ _ 33 (extract_o p)
  have h3 := fun w => run_part_plain w plain_set (poolA_get p 65 (by decide))
  have h4 := fun w => run_part_plain w plain_set (poolA_get p 66 (by decide))
  have h5 := fun w => part_row w Tryd.underlying28 rfl ints_info _ _ 67 (extract_ids p)
  have h6 := fun w => run_part_plain w plain_int (poolA_get p 99 (by decide))
  simp only [cell_size, cell_live, cell_done, cell_count] at h0 h3 h4 h6
  simp [Op.eqFields, h0, h1, h2, h3, h4, h5, h6, eqd_mat Tryd.underlying27 plain_set Tryd.underlying25 cells_set info_set, eqd_ord Tryd.underlying29, eqd_ord Tryd.underlying28, eqd_int Tryd.underlying3, eqd_int Tryd.underlying25]
theorem eq_rpool (p : Pl) (w : World) : (Op.equalIn 10000 38 (.agg (poolA p)) (.agg (poolA p))).run Tryd.prog w = .ok true w := by
  have hf : Tryd.prog.underlying 38 = some (.struct (Tryd.prog.fieldsOf 38)) := by unfold Program.fieldsOf; rw [Tryd.underlying38]
  rw [run_equalIn_struct w 9999 38 _ _ hf (by kernel_rfl)]
  simp only [Program.fieldsOf, Tryd.underlying38]
  have h0 := fun w => run_part_plain w plain_int (poolA_get p 0 (by decide))
  have h1 := fun w => part_row w Tryd.underlying35 rfl rmat_info _ _ 1 (extract_m p)
  have h2 := fun w => part_row w Tryd.underlying36 rfl rord_info _ _ 33 (extract_o p)
  have h3 := fun w => run_part_plain w plain_u64 (poolA_get p 65 (by decide))
  have h4 := fun w => run_part_plain w plain_u64 (poolA_get p 66 (by decide))
  have h5 := fun w => part_row w Tryd.underlying28 rfl ints_info _ _ 67 (extract_ids p)
  have h6 := fun w => run_part_plain w plain_int (poolA_get p 99 (by decide))
  simp only [cell_size, cell_live, cell_done, cell_count] at h0 h3 h4 h6
  simp [Op.eqFields, h0, h1, h2, h3, h4, h5, h6, eqd_mat Tryd.underlying35 plain_u64 Tryd.underlying24 cells_u64 info_u64, eqd_ord Tryd.underlying36, eqd_ord Tryd.underlying28, eqd_int Tryd.underlying3, eqd_int Tryd.underlying24]
/-- '==' and '!=' of what is the same. -/
theorem run_same_eq (t : TypeId) (cs : Array Value) (x y : Operand) (w : World) (hg : Tryd.prog.eqGuardType Tryd.prog.depth t = false) (h : (Op.equalIn 10000 t (.agg cs) (.agg cs)).run Tryd.prog w = .ok true w) :
    (do eqGuard .eql t x y (.agg cs) (.agg cs); binOp .eql t (.agg cs) (.agg cs) : Sem Value).run Tryd.prog w = .ok (.bool true) w := by
  rw [Sem.run_bind, run_eqGuard_agg w .eql t x y cs cs hg, Result.andThen_ok, run_eql_struct, h, Result.andThen_ok]
theorem run_same_ne (t : TypeId) (cs : Array Value) (x y : Operand) (w : World) (hg : Tryd.prog.eqGuardType Tryd.prog.depth t = false) (h : (Op.equalIn 10000 t (.agg cs) (.agg cs)).run Tryd.prog w = .ok true w) :
    (do eqGuard .neq t x y (.agg cs) (.agg cs); binOp .neq t (.agg cs) (.agg cs) : Sem Value).run Tryd.prog w = .ok (.bool false) w := by
  rw [Sem.run_bind, run_eqGuard_agg w .neq t x y cs cs hg, Result.andThen_ok, run_neq_struct, h, Result.andThen_ok]; rfl
theorem guard_pool : Tryd.prog.eqGuardType Tryd.prog.depth 31 = false := by kernel_rfl
theorem guard_rpool : Tryd.prog.eqGuardType Tryd.prog.depth 38 = false := by kernel_rfl
theorem yields_eq {ops : Array Oper} {S : World → Prop} {op : Oper} {a : Act} (hw : Region.wanted op (yielded ops a.tmps) = true) (t r : TypeId) (x y : Operand) (ho : op.op = .binOp .eql t x y r)
    (cs : Array Value) (hx : a.eval x = .agg cs) (hy : a.eval y = .agg cs) (hg : Tryd.prog.eqGuardType Tryd.prog.depth t = false) (h : ∀ w, (Op.equalIn 10000 t (.agg cs) (.agg cs)).run Tryd.prog w = .ok true w) : YieldsIf Tryd.prog ops S op (.bool true) a :=
  .inl ⟨hw, fun w _ => by unfold execOp; simp only [ho, hx, hy]; rw [Sem.run_bind, run_same_eq t cs x y w hg (h w)]; rfl⟩
theorem yields_ne {ops : Array Oper} {S : World → Prop} {op : Oper} {a : Act} (hw : Region.wanted op (yielded ops a.tmps) = true) (t r : TypeId) (x y : Operand) (ho : op.op = .binOp .neq t x y r)
    (cs : Array Value) (hx : a.eval x = .agg cs) (hy : a.eval y = .agg cs) (hg : Tryd.prog.eqGuardType Tryd.prog.depth t = false) (h : ∀ w, (Op.equalIn 10000 t (.agg cs) (.agg cs)).run Tryd.prog w = .ok true w) : YieldsIf Tryd.prog ops S op (.bool false) a :=
  .inl ⟨hw, fun w _ => by unfold execOp; simp only [ho, hx, hy]; rw [Sem.run_bind, run_same_ne t cs x y w hg (h w)]; rfl⟩
theorem wpList_eq {ops : Array Oper} {rest : List Oper} {op : Oper} {a : Act} {w : World} {Q : Exit → Act → World → Prop} (hw : Region.wanted op (yielded ops a.tmps) = true) (t r : TypeId) (x y : Operand) (ho : op.op = .binOp .eql t x y r)
    (cs : Array Value) (hx : a.eval x = .agg cs) (hy : a.eval y = .agg cs) (hg : Tryd.prog.eqGuardType Tryd.prog.depth t = false) (h : (Op.equalIn 10000 t (.agg cs) (.agg cs)).run Tryd.prog w = .ok true w)
    (hK : wpList Tryd.prog ops Q rest (a.put op.dst (.bool true)) w) : wpList Tryd.prog ops Q (op :: rest) a w :=
  wpList_step fun _ hK' => by
    rw [if_pos hw]
    unfold Oper.wp execOp
    simp only [ho, hx, hy]
    rw [Sem.run_bind, run_same_eq t cs x y w hg h]
    exact hK' _ _ hK
theorem yields_build {ops : Array Oper} {S : World → Prop} {op : Oper} {a : Act} (hw : Region.wanted op (yielded ops a.tmps) = true) (t : TypeId) (parts : Array (Nat × Operand)) (ho : op.op = .build t parts)
    (parts' : Array (Nat × Value)) (hp : (parts.map fun (i, x) => (i, a.eval x)) = parts') (v : Value) (hv : ∀ w, (Instr.build t parts').run Tryd.prog w = .ok v w) : YieldsIf Tryd.prog ops S op v a :=
  .inl ⟨hw, fun w _ => by unfold execOp; simp only [ho, hp, Sem.run_bind, hv w, Result.andThen_ok]; rfl⟩
theorem idsInfo (o : Od.O) : (Tryd.prog.info? 28).map (·.size) = some (ordA o).size := by rw [ordA_size]; exact ints_info
structure OuSt (p : Pl) (w : World) (W : World) : Prop where
  po : PoolAt W w.heap.size p 31
  re : ∃ q, PoolAt W (w.heap.size + 1) q 38
  bel : Below w.heap.size w W
theorem OuSt.below {p : Pl} {w W W' : World} (h : OuSt p w W) (hb : Below W.heap.size W W') : OuSt p w W' := ⟨h.po.below hb, by obtain ⟨q, hq⟩ := h.re; exact ⟨q, hq.below hb⟩, h.bel.trans (hb.mono h.bel.size)⟩
theorem OuSt.put {p : Pl} {w W : World} (h : OuSt p w W) (q : Pl) : OuSt p w (W.setRow (w.heap.size + 1) (poolA q)) :=
  ⟨h.po.setRow _ (by omega), by obtain ⟨r, hr⟩ := h.re; exact ⟨q, poolAt_put hr⟩, setRow_below h.bel (by omega)⟩
theorem oust_first (p : Pl) (w : World) : OuSt p w ((w.alloc (.cells (poolA p) 31)).alloc (.cells (poolA zeroP) 38)) :=
  ⟨(poolAt_new w p 31).alloc _, ⟨zeroP, by have := poolAt_new (w.alloc (.cells (poolA p) 31)) zeroP 38; simpa using this⟩, ((Below.refl _ _).alloc (Nat.le_refl _) _).alloc (by simp) _⟩
theorem results_pool1 {fn : Func} {c : Tmp} {ty : TypeId} (h : fn.results = #[.cell c ty]) (tmps : Array Value) (w : World) (g : Nat) (t : TypeId) (p : Pl) (d : TypeDesc)
    (hp : tmps.getD c undef = .pointer (some ⟨g, 0, none⟩)) (hg : PoolAt w g p t) (hu : Tryd.prog.underlying ty = some d) (hd : d.isRow = true) (hi : (Tryd.prog.info? ty).map (·.size) = some 100) :
    (results fn tmps).run Tryd.prog w = .ok (.agg (poolA p)) w := by
  have hp' : tmps[c]?.getD undef = .pointer (some ⟨g, 0, none⟩) := by simpa using hp
  simp only [results, h]
  simp [hp', asAddr, load_whole w g p t ty d hg hu hd hi]
set_option maxHeartbeats 1000000 in
set_option maxRecDepth 100000 in
theorem pours_any (p : Pl) (w : World) : Calls Tryd.prog 12 #[.agg (poolA p)] w fun e w' => e = .returned (.agg (poolA p)) ∧ Below w.heap.size w w' := by
  have hz := (zero_of_info zero_rpool_info).1
  have H0 := Lib.hid (oust_first p w)
  go_enter Tryd.func12, Tryd.ntmps12
  go_wp2
  refine wp_region_noPanic ?_
  refine region_start (S := OuSt p w) 17 rfl (by kernel_rfl) (H0.out.below (below_drew _)) (fun hHeld => ?_)
  refine take_at 0 3 (.pointer (some ⟨w.heap.size, 0, none⟩)) rfl rfl (by kernel_rfl) (by kernel_rfl) (by kernel_rfl) (fun _ _ _ h => h) (Or.inl ⟨by rfl, by intro W hW; clear hW; go_simp; try (intro h; omega)⟩) hHeld ?_
  simp only [put_laws]
  refine take_at 1 4 (.int .i64 p.size) rfl rfl (by kernel_rfl) (by kernel_rfl) (by kernel_rfl) (fun _ _ _ h => h) (Or.inl ⟨by rfl, by intro W hW; have hc := hW.po.size_; clear hW; go_simp⟩) hHeld ?_
  simp only [put_laws]
  refine take_at 2 5 (.pointer (some ⟨w.heap.size, 1, none⟩)) rfl rfl (by kernel_rfl) (by kernel_rfl) (by kernel_rfl) (fun _ _ _ h => h) (Or.inl ⟨by rfl, by intro W hW; clear hW; go_simp; try (intro h; omega)⟩) hHeld ?_
  simp only [put_laws]
  refine take_at 3 6 (.agg (matA p.m)) rfl rfl (by kernel_rfl) (by kernel_rfl) (by kernel_rfl) (fun _ _ _ h => h) (yields_mid (by rfl) 27 (.tmp 5) rfl (w.heap.size) 1 rfl (matA p.m) _ (fun W h => h.po.range_m) Tryd.underlying27 rfl (matInfo _)) hHeld ?_
  simp only [put_laws]
  refine take_at 5 8 (.pointer (some ⟨w.heap.size, 33, none⟩)) rfl rfl (by kernel_rfl) (by kernel_rfl) (by kernel_rfl) (fun _ _ _ h => h) (Or.inl ⟨by rfl, by intro W hW; clear hW; go_simp; try (intro h; omega)⟩) hHeld ?_
  simp only [put_laws]
  refine take_at 6 9 (.agg (ordA p.o)) rfl rfl (by kernel_rfl) (by kernel_rfl) (by kernel_rfl) (fun _ _ _ h => h) (yields_mid (by rfl) 29 (.tmp 8) rfl (w.heap.size) 33 rfl (ordA p.o) _ (fun W h => h.po.range_o) Tryd.underlying29 rfl (ordInfo _)) hHeld ?_
  simp only [put_laws]
  refine take_at 7 10 (.pointer (some ⟨w.heap.size, 65, none⟩)) rfl rfl (by kernel_rfl) (by kernel_rfl) (by kernel_rfl) (fun _ _ _ h => h) (Or.inl ⟨by rfl, by intro W hW; clear hW; go_simp; try (intro h; omega)⟩) hHeld ?_
  simp only [put_laws]
  refine take_at 8 11 (.int .u64 (p.live : Nat)) rfl rfl (by kernel_rfl) (by kernel_rfl) (by kernel_rfl) (fun _ _ _ h => h) (Or.inl ⟨by rfl, by intro W hW; have hc := hW.po.live_; clear hW; go_simp⟩) hHeld ?_
  simp only [put_laws]
  refine take_at 9 12 (.pointer (some ⟨w.heap.size, 66, none⟩)) rfl rfl (by kernel_rfl) (by kernel_rfl) (by kernel_rfl) (fun _ _ _ h => h) (Or.inl ⟨by rfl, by intro W hW; clear hW; go_simp; try (intro h; omega)⟩) hHeld ?_
  simp only [put_laws]
  refine take_at 10 13 (.int .u64 (p.done : Nat)) rfl rfl (by kernel_rfl) (by kernel_rfl) (by kernel_rfl) (fun _ _ _ h => h) (Or.inl ⟨by rfl, by intro W hW; have hc := hW.po.done_; clear hW; go_simp⟩) hHeld ?_
  simp only [put_laws]
  refine take_at 11 14 (.pointer (some ⟨w.heap.size, 67, none⟩)) rfl rfl (by kernel_rfl) (by kernel_rfl) (by kernel_rfl) (fun _ _ _ h => h) (Or.inl ⟨by rfl, by intro W hW; clear hW; go_simp; try (intro h; omega)⟩) hHeld ?_
  simp only [put_laws]
  refine take_at 12 15 (.agg (ordA p.ids)) rfl rfl (by kernel_rfl) (by kernel_rfl) (by kernel_rfl) (fun _ _ _ h => h) (yields_mid (by rfl) 28 (.tmp 14) rfl (w.heap.size) 67 rfl (ordA p.ids) _ (fun W h => h.po.range_ids) Tryd.underlying28 rfl (idsInfo _)) hHeld ?_
  simp only [put_laws]
  refine take_at 13 16 (.pointer (some ⟨w.heap.size, 99, none⟩)) rfl rfl (by kernel_rfl) (by kernel_rfl) (by kernel_rfl) (fun _ _ _ h => h) (Or.inl ⟨by rfl, by intro W hW; clear hW; go_simp; try (intro h; omega)⟩) hHeld ?_
  simp only [put_laws]
  refine take_at 14 17 (.int .i64 p.count) rfl rfl (by kernel_rfl) (by kernel_rfl) (by kernel_rfl) (fun _ _ _ h => h) (Or.inl ⟨by rfl, by intro W hW; have hc := hW.po.count_; clear hW; go_simp⟩) hHeld ?_
  simp only [put_laws]
  refine wpAnyH_ready (rs := [4]) (by kernel_rfl) (by simp) ?_
  refine AllReadyH.cons rfl (fun K hK => ?_) AllReadyH.nil
  go_simp
  refine (ours_any p.m _).mono ?_
  rintro e w5 ⟨rfl, hb5⟩
  try go_simp
  have hHeld := hHeld.below hb5
  refine hK.out _ _ hHeld (fun hHeld => ?_)
  clear hK K
  refine take_at 15 18 (.agg (poolA p)) rfl rfl (by kernel_rfl) (by kernel_rfl) (by kernel_rfl) (fun _ _ _ h => h) (yields_build (by rfl) 38 #[(0, .tmp 4), (1, .tmp 7), (2, .tmp 9), (3, .tmp 11), (4, .tmp 13), (5, .tmp 15), (6, .tmp 17)] rfl #[(0, .int .i64 p.size), (1, .agg (matA p.m)), (2, .agg (ordA p.o)), (3, .int .u64 (p.live : Nat)), (4, .int .u64 (p.done : Nat)), (5, .agg (ordA p.ids)), (6, .int .i64 p.count)] (by simp [Act.eval]) _ (rbuild_all p)) hHeld ?_
  simp only [put_laws]
  refine wpAnyH_ready (rs := [16]) (by kernel_rfl) (by simp) ?_
  refine AllReadyH.cons rfl (fun K hK => ?_) AllReadyH.nil
  obtain ⟨old, hold⟩ := hHeld.re
  refine step_store_pool (by rfl) 38 (.tmp 2) (.tmp 18) (by rfl) (w.heap.size + 1) old p 38 (by rfl) (by rfl) hold rpool_info ?_
  have hR := poolAt_put (q := p) hold
  have hHeld := hHeld.put p
  refine hK.out _ _ hHeld (fun hHeld => ?_)
  clear hK K hold
  refine wpAnyH_done (by kernel_rfl) ?_ _
  refine NoPanic.normal ?_
  go_wp2
  refine bodyPost_ret (results_pool1 rfl _ _ (w.heap.size + 1) 38 p _ rfl hR Tryd.underlying38 rfl rpool_info) rfl ⟨rfl, hHeld.bel⟩
/- rows -/
set_option maxHeartbeats 1000000 in
set_option maxRecDepth 100000 in
theorem same_any (A B : Option Addr) (n c d : Nat) (zs : List Int) (w : World) (hn : n ≤ 9223372036854775807) (ha : IntsAt w A n zs) (hb : IntsAt w B n zs) :
    Calls Tryd.prog 35 #[.slice A n c, .slice B n d] w fun e w' => e = .returned (.bool true) ∧ Below w.heap.size w w' := by
  have HA := Lib.hid ha
  have HB := Lib.hid hb
  clear ha hb
  go_enter Tryd.func35, Tryd.ntmps35
  go_wp2
  go_loopw [5] (fun i wr => ∃ k q : Nat, k ≤ n ∧ i = .int .i64 k ∧ wr = w.drewN q) (fun i _ => n - (intOf i).toNat)
  case atStart => exact ⟨0, 0, Nat.zero_le _, rfl, rfl⟩
  case round =>
    obtain ⟨k, q, hk, rfl, rfl⟩ := hrel
    by_cases hlt : k < n
    · obtain ⟨ad, z, rfl, hz, hc, h0, h1⟩ := HA.out.at_ hlt
      obtain ⟨ad', z', rfl, hz', hc', _⟩ := HB.out.at_ hlt
      have e : z' = z := by rw [hz] at hz'; injection hz' with e; exact e.symm
      subst e
      clear hz hz'
      have hlt' : (k : Int) < (n : Int) := by omega
      go_wp2
      go_quiet (fail)
      go_wp2
      exact ⟨⟨k + 1, q + nq, by omega, by go_num, rfl⟩, by simp [intOf]; omega⟩
    · go_wp2
      go_ret
      exact ⟨rfl, below_drewN (Below.refl _ _) _⟩
theorem OwnI.ints {w : World} {base : Nat} {A : Option Addr} {n c : Nat} {l : List Int} (h : OwnI w base (.slice A n c) l) (hl : ∀ z ∈ l, i64s z) : IntsAt w A l.length l := by
  refine ⟨rfl, fun hn => ?_, hl⟩
  obtain ⟨g, rfl, _⟩ := h.at_ hn
  refine ⟨_, rfl, fun j z hz => ?_⟩
  obtain ⟨hj, rfl⟩ := List.getElem?_eq_some_iff.1 hz
  obtain ⟨g', hA, hc⟩ := h.at_ hj
  injection hA with hA
  injection hA with hA
  subst hA
  rw [addr_at]; exact hc
theorem sameI {l : List Int} {W : World} {b1 b2 : Nat} {v1 v2 : Value} (hl : ∀ z ∈ l, i64s z) (h1 : OwnI W b1 v1 l) (h2 : OwnI W b2 v2 l) :
    Calls Tryd.prog 35 #[v1, v2] W fun e w' => e = .returned (.bool true) ∧ Below W.heap.size W w' := by
  obtain ⟨A, c, rfl, _, _⟩ := h1.shape
  obtain ⟨B, d, rfl, _, _⟩ := h2.shape
  exact same_any A B _ c d _ W (by omega) (h1.ints hl) (h2.ints hl)
end Go.Proofs.YtakoceablbgchaaDoor
namespace Go.Proofs.YtakoceablbgchaaDoor
open Go.RowKit
attribute [local go_sem ↓] Go.wp_at_zero Go.wp_at_succ
def actA (x : Po.Act) : Array Value := #[.int .u8 (x.kind : Nat), .int .i64 x.a, .int .i64 x.b]
/-- the arguments' boxes, and what is told. -/
structure DSt (p m : Pl) (x : Po.Act) (w : World) (W : World) : Prop where
  po : PoolAt W w.heap.size p 31
  pm : PoolAt W (w.heap.size + 1) m 38
  ac : W.heap[w.heap.size + 2]? = some (.cells (actA x) 43 (0, 0))
  r0 : ∃ q, PoolAt W (w.heap.size + 3) q 31
  r1 : ∃ q, PoolAt W (w.heap.size + 4) q 38
  bel : Below w.heap.size w W
theorem DSt.below {p m : Pl} {x : Po.Act} {w W W' : World} (h : DSt p m x w W) (hb : Below W.heap.size W W') : DSt p m x w W' :=
  ⟨h.po.below hb, h.pm.below hb, (hb.block _ (Array.getElem?_eq_some_iff.1 h.ac).1).trans h.ac, by obtain ⟨q, hq⟩ := h.r0; exact ⟨q, hq.below hb⟩, by obtain ⟨q, hq⟩ := h.r1; exact ⟨q, hq.below hb⟩, h.bel.trans (hb.mono h.bel.size)⟩
theorem DSt.kind {p m : Pl} {x : Po.Act} {w W : World} (h : DSt p m x w W) : W.cell? ⟨w.heap.size + 2, 0, none⟩ = some (.int .u8 (x.kind : Nat)) := by rw [cell_of_row _ _ _ _ _ _ h.ac]; rfl
theorem DSt.fa {p m : Pl} {x : Po.Act} {w W : World} (h : DSt p m x w W) : W.cell? ⟨w.heap.size + 2, 1, none⟩ = some (.int .i64 x.a) := by rw [cell_of_row _ _ _ _ _ _ h.ac]; rfl
theorem DSt.fb {p m : Pl} {x : Po.Act} {w W : World} (h : DSt p m x w W) : W.cell? ⟨w.heap.size + 2, 2, none⟩ = some (.int .i64 x.b) := by rw [cell_of_row _ _ _ _ _ _ h.ac]; rfl
def dWorld (p m : Pl) (x : Po.Act) (w : World) : World := ((((w.alloc (.cells (poolA p) 31)).alloc (.cells (poolA m) 38)).alloc (.cells (actA x) 43)).alloc (.cells (poolA zeroP) 31)).alloc (.cells (poolA zeroP) 38)
theorem alloc_get (w : World) (o : Obj) (k : Nat) (h : k < w.heap.size) : (w.alloc o).heap[k]? = w.heap[k]? := Below.heap_alloc w o k h
theorem alloc_size (w : World) (o : Obj) : (w.alloc o).heap.size = w.heap.size + 1 := by simp
theorem dst_first (p m : Pl) (x : Po.Act) (w : World) : DSt p m x w (dWorld p m x w) := by
  unfold dWorld
  refine ⟨((((poolAt_new w p 31).alloc _).alloc _).alloc _).alloc _, ?_, ?_, ⟨zeroP, ?_⟩, ⟨zeroP, ?_⟩, ?_⟩
  · have := poolAt_new (w.alloc (.cells (poolA p) 31)) m 38
    rw [alloc_size] at this
    exact ((this.alloc _).alloc _).alloc _
  · rw [alloc_get _ _ _ (by simp), alloc_get _ _ _ (by simp)]
    have := heap_alloc_new ((w.alloc (.cells (poolA p) 31)).alloc (.cells (poolA m) 38)) (.cells (actA x) 43)
    rw [alloc_size, alloc_size] at this
    exact this
  · have := poolAt_new (((w.alloc (.cells (poolA p) 31)).alloc (.cells (poolA m) 38)).alloc (.cells (actA x) 43)) zeroP 31
    rw [alloc_size, alloc_size, alloc_size] at this
    exact this.alloc _
  · have := poolAt_new ((((w.alloc (.cells (poolA p) 31)).alloc (.cells (poolA m) 38)).alloc (.cells (actA x) 43)).alloc (.cells (poolA zeroP) 31)) zeroP 38
    rw [alloc_size, alloc_size, alloc_size, alloc_size] at this
    exact this
  · exact (((((Below.refl _ _).alloc (Nat.le_refl _) _).alloc (by simp) _).alloc (by simp; omega) _).alloc (by simp; omega) _).alloc (by simp; omega) _
theorem wpList_letP {ops : Array Oper} {rest : List Oper} {op : Oper} {a : Act} {V : World} {Q : Exit → Act → World → Prop} (hgd : op.guard = none) (t : Nat) (x y : Operand) (ho : op.op = .store t x y) (hds : op.dst = none)
    (W : World) (q : Pl) (hV : V = W.alloc (.cells (poolA zeroP) t)) (hx : a.eval x = .pointer (some ⟨W.heap.size, 0, none⟩)) (hy : a.eval y = .agg (poolA q)) (hi : (Tryd.prog.info? t).map (·.size) = some 100)
    (h : ∀ W', PoolAt W' W.heap.size q t → Below W.heap.size W W' → wpList Tryd.prog ops Q rest a W') : wpList Tryd.prog ops Q (op :: rest) a V := by
  subst hV
  refine store_pool hgd t x y ho hds W.heap.size zeroP q t hx hy (poolAt_new _ _ _) hi ?_
  rw [World.setRow_alloc_new]
  exact h _ (poolAt_new _ _ _) (below_new _ _)
/-- what each act ends with. -/
structure DEnd (p m : Pl) (x : Po.Act) (w : World) (b1 : Nat) (q1 : Pl) (b2 : Nat) (q2 : Pl) (W : World) : Prop where
  st : DSt p m x w W
  n1 : PoolAt W b1 q1 31
  n2 : PoolAt W b2 q2 38
  l1 : w.heap.size + 5 ≤ b1
  l2 : w.heap.size + 5 ≤ b2
theorem DEnd.below {p m : Pl} {x : Po.Act} {w W W' : World} {b1 b2 : Nat} {q1 q2 : Pl} (h : DEnd p m x w b1 q1 b2 q2 W) (hb : Below W.heap.size W W') : DEnd p m x w b1 q1 b2 q2 W' := ⟨h.st.below hb, h.n1.below hb, h.n2.below hb, h.l1, h.l2⟩
theorem DSt.size5 {p m : Pl} {x : Po.Act} {w W : World} (h : DSt p m x w W) : w.heap.size + 5 ≤ W.heap.size := by obtain ⟨q, hq⟩ := h.r1; have := hq.lt; omega
theorem DSt.put0 {p m : Pl} {x : Po.Act} {w W : World} (h : DSt p m x w W) (q : Pl) : DSt p m x w (W.setRow (w.heap.size + 3) (poolA q)) :=
  ⟨h.po.setRow _ (by omega), h.pm.setRow _ (by omega), (setRow_other _ _ _ _ (by omega)).trans h.ac, by obtain ⟨r, hr⟩ := h.r0; exact ⟨q, poolAt_put hr⟩, by obtain ⟨r, hr⟩ := h.r1; exact ⟨r, hr.setRow _ (by omega)⟩, setRow_below h.bel (by omega)⟩
theorem DSt.put1 {p m : Pl} {x : Po.Act} {w W : World} (h : DSt p m x w W) (q : Pl) : DSt p m x w (W.setRow (w.heap.size + 4) (poolA q)) :=
  ⟨h.po.setRow _ (by omega), h.pm.setRow _ (by omega), (setRow_other _ _ _ _ (by omega)).trans h.ac, by obtain ⟨r, hr⟩ := h.r0; exact ⟨r, hr.setRow _ (by omega)⟩, by obtain ⟨r, hr⟩ := h.r1; exact ⟨q, poolAt_put hr⟩, setRow_below h.bel (by omega)⟩
theorem DEnd.put0 {p m : Pl} {x : Po.Act} {w W : World} {b1 b2 : Nat} {q1 q2 : Pl} (h : DEnd p m x w b1 q1 b2 q2 W) (q : Pl) : DEnd p m x w b1 q1 b2 q2 (W.setRow (w.heap.size + 3) (poolA q)) :=
  ⟨h.st.put0 q, h.n1.setRow _ (by have := h.l1; omega), h.n2.setRow _ (by have := h.l2; omega), h.l1, h.l2⟩
theorem DEnd.put1 {p m : Pl} {x : Po.Act} {w W : World} {b1 b2 : Nat} {q1 q2 : Pl} (h : DEnd p m x w b1 q1 b2 q2 W) (q : Pl) : DEnd p m x w b1 q1 b2 q2 (W.setRow (w.heap.size + 4) (poolA q)) :=
  ⟨h.st.put1 q, h.n1.setRow _ (by have := h.l1; omega), h.n2.setRow _ (by have := h.l2; omega), h.l1, h.l2⟩
structure DEndC (p m : Pl) (x : Po.Act) (w : World) (b1 : Nat) (q1 : Pl) (b2 : Nat) (q2 : Pl) (v1 : Value) (l1 : List Int) (v2 : Value) (l2 : List Int) (W : World) : Prop where
  e : DEnd p m x w b1 q1 b2 q2 W
  r1 : OwnI W (w.heap.size + 5) v1 l1
  r2 : OwnI W (w.heap.size + 5) v2 l2
theorem DEndC.below {p m : Pl} {x : Po.Act} {w W W' : World} {b1 b2 : Nat} {q1 q2 : Pl} {v1 v2 : Value} {l1 l2 : List Int} (h : DEndC p m x w b1 q1 b2 q2 v1 l1 v2 l2 W) (hb : Below W.heap.size W W') : DEndC p m x w b1 q1 b2 q2 v1 l1 v2 l2 W' :=
  ⟨h.e.below hb, h.r1.below hb (Nat.le_refl _), h.r2.below hb (Nat.le_refl _)⟩
theorem DEndC.put0 {p m : Pl} {x : Po.Act} {w W : World} {b1 b2 : Nat} {q1 q2 : Pl} {v1 v2 : Value} {l1 l2 : List Int} (h : DEndC p m x w b1 q1 b2 q2 v1 l1 v2 l2 W) (q : Pl) : DEndC p m x w b1 q1 b2 q2 v1 l1 v2 l2 (W.setRow (w.heap.size + 3) (poolA q)) :=
  ⟨h.e.put0 q, h.r1.setRow _ (by omega), h.r2.setRow _ (by omega)⟩
theorem DEndC.put1 {p m : Pl} {x : Po.Act} {w W : World} {b1 b2 : Nat} {q1 q2 : Pl} {v1 v2 : Value} {l1 l2 : List Int} (h : DEndC p m x w b1 q1 b2 q2 v1 l1 v2 l2 W) (q : Pl) : DEndC p m x w b1 q1 b2 q2 v1 l1 v2 l2 (W.setRow (w.heap.size + 4) (poolA q)) :=
  ⟨h.e.put1 q, h.r1.setRow _ (by omega), h.r2.setRow _ (by omega)⟩
theorem results_pools {fn : Func} {c c' u : Tmp} {ty tz : TypeId} (h : fn.results = #[.cell c ty, .cell c' tz, .tmp u]) (tmps : Array Value) (w : World) (g g' : Nat) (t t' : TypeId) (p q : Pl) (d d' : TypeDesc) (x : Value)
    (hp : tmps.getD c undef = .pointer (some ⟨g, 0, none⟩)) (hq : tmps.getD c' undef = .pointer (some ⟨g', 0, none⟩)) (hx : tmps.getD u undef = x) (hg : PoolAt w g p t) (hg' : PoolAt w g' q t')
    (hu : Tryd.prog.underlying ty = some d) (hd : d.isRow = true) (hi : (Tryd.prog.info? ty).map (·.size) = some 100) (hu' : Tryd.prog.underlying tz = some d') (hd' : d'.isRow = true) (hi' : (Tryd.prog.info? tz).map (·.size) = some 100) :
    (results fn tmps).run Tryd.prog w = .ok (.tuple #[.agg (poolA p), .agg (poolA q), x]) w := by
  have hp' : tmps[c]?.getD undef = .pointer (some ⟨g, 0, none⟩) := by simpa using hp
  have hq' : tmps[c']?.getD undef = .pointer (some ⟨g', 0, none⟩) := by simpa using hq
  have hx' : tmps[u]?.getD undef = x := by simpa using hx
  simp only [results, h]
  simp [hp', hq', hx', asAddr, Result.andThen, load_whole w g p t ty d hg hu hd hi, load_whole w g' q t' tz d' hg' hu' hd' hi']
/-- what does tells. -/
def DPost (p m : Pl) (q1 q2 : Pl) (w : World) (e : Ending) (w' : World) : Prop :=
  ∃ b, e = .returned (.tuple #[.agg (poolA q1), .agg (poolA q2), .bool b]) ∧ (p = m → b = true) ∧ Below w.heap.size w w'
/-- what is asked of both pools. -/
structure DAsk (p m : Pl) (x : Po.Act) (w : World) : Prop where
  okp : p.Ok
  okm : m.Ok
  pc : p.count < 9223372036854775807
  mc : m.count < 9223372036854775807
  ms : m.size ≤ 32
  md : m.done < 4294967296
  a : -9223372036854775808 ≤ x.a ∧ x.a ≤ 9223372036854775807
  b : -9223372036854775808 ≤ x.b ∧ x.b ≤ 9223372036854775807
  k : x.kind < 256
  cmp : m = p ∨ m = zeroP
  t : TabAt w
set_option maxHeartbeats 2000000 in
set_option maxRecDepth 100000 in
theorem does_edge2 (p m : Pl) (x : Po.Act) (w : World) (hA : DAsk p m x w) (hr : (x.kind : Int).tmod 6 = 2) :
    Calls Tryd.prog 13 #[.agg (poolA p), .agg (poolA m), .agg (actA x)] w (DPost p m ((Po.edge p x.a x.b).1) ((Po.edge m x.a x.b).1) w) := by
  have hz1 := (zero_of_info zero_pool_info).1
  have hz2 := (zero_of_info zero_rpool_info).1
  have H0 := Lib.hid (dst_first p m x w)
  have HA := Lib.hid hA
  have hk := hA.k
  have hc := H0.out.kind
  have hfa := H0.out.fa
  have hfb := H0.out.fb
  unfold dWorld at hc hfa hfb H0
  clear hA
  go_enter Tryd.func13, Tryd.ntmps13
  go_wp2_with (refine load_pool rfl 31 (.tmp 3) rfl w.heap.size p 31 rfl _ H0.out.po Tryd.underlying31 rfl pool_info ?_)
  refine (edge_any p x.a x.b _ HA.out.okp HA.out.a HA.out.b (tab_keep HA.out.t H0.out.bel)).mono ?_
  rintro e w1 ⟨rfl, hb1⟩
  generalize hq1 : (Po.edge p x.a x.b).1 = Q1
  generalize he1 : (Po.edge p x.a x.b).2 = E1
  have HQ1 := Lib.hid hq1
  have HE1 := Lib.hid he1
  clear hq1 he1
  have H1 := Lib.hid (H0.out.below hb1)
  have hfa1 := H1.out.fa
  have hfb1 := H1.out.fb
  clear hb1 H0 hc hfa hfb
  go_wp2_with (first
    | (refine wpList_letP rfl 31 (.tmp 9) (.tmp 40) rfl rfl w1 Q1 rfl rfl rfl pool_info ?_; intro w2 n2 hb2; have N2 := Lib.hid n2; have H2 := Lib.hid (H1.out.below hb2); have hfa2 := H2.out.fa; have hfb2 := H2.out.fb; have L2 := Lib.hid (show w.heap.size + 5 ≤ w1.heap.size from H1.out.size5); clear n2 hb2)
    | (refine load_pool rfl 38 (.tmp 4) rfl (w.heap.size + 1) m 38 rfl _ H2.out.pm Tryd.underlying38 rfl rpool_info ?_))
  refine (redge_any m x.a x.b _ HA.out.okm HA.out.a HA.out.b (tab_keep HA.out.t H2.out.bel)).mono ?_
  rintro e w3 ⟨rfl, hb3⟩
  generalize hq2 : (Po.edge m x.a x.b).1 = Q2
  generalize he2 : (Po.edge m x.a x.b).2 = E2
  have HQ2 := Lib.hid hq2
  have HE2 := Lib.hid he2
  clear hq2 he2
  have H3 := Lib.hid (H2.out.below hb3)
  have N3 := Lib.hid (N2.out.below hb3)
  clear hb3 H1 H2 N2 hfa1 hfb1 hfa2 hfb2
  go_wp2_with (refine wpList_letP rfl 38 (.tmp 11) (.tmp 49) rfl rfl w3 Q2 rfl rfl rfl rpool_info ?_; intro w4 n4 hb4; have H4 := Lib.hid (show DEnd p m x w w1.heap.size Q1 w3.heap.size Q2 w4 from ⟨H3.out.below hb4, N3.out.below hb4, n4, L2.out, H3.out.size5⟩); clear n4 hb4)
  refine wp_region_noPanic ?_
  refine region_start (S := DEnd p m x w w1.heap.size Q1 w3.heap.size Q2) 8 rfl (by kernel_rfl) (H4.out.below (below_drew _)) (fun hHeld => ?_)
  refine take_at 0 51 (.agg (poolA Q1)) rfl rfl (by kernel_rfl) (by kernel_rfl) (by kernel_rfl) (fun _ _ _ h => h) (yields_pool (by rfl) 31 (.tmp 9) rfl (w1.heap.size) rfl 31 (Q1) _ (fun W h => h.n1) Tryd.underlying31 rfl pool_info) hHeld ?_
  simp only [put_laws]
  refine take_at 1 52 (.agg (poolA Q2)) rfl rfl (by kernel_rfl) (by kernel_rfl) (by kernel_rfl) (fun _ _ _ h => h) (yields_pool (by rfl) 38 (.tmp 11) rfl (w3.heap.size) rfl 38 (Q2) _ (fun W h => h.n2) Tryd.underlying38 rfl rpool_info) hHeld ?_
  simp only [put_laws]
  refine take_at 2 53 (.int .i64 E1) rfl rfl (by kernel_rfl) (by kernel_rfl) (by kernel_rfl) (fun _ _ _ h => h) (Or.inl ⟨by rfl, by intro W hW; clear hW; go_simp⟩) hHeld ?_
  simp only [put_laws]
  refine take_at 3 54 (.int .i64 E2) rfl rfl (by kernel_rfl) (by kernel_rfl) (by kernel_rfl) (fun _ _ _ h => h) (Or.inl ⟨by rfl, by intro W hW; clear hW; go_simp⟩) hHeld ?_
  simp only [put_laws]
  refine take_at 4 55 (.bool (E1 == E2)) rfl rfl (by kernel_rfl) (by kernel_rfl) (by kernel_rfl) (fun _ _ _ h => h) (Or.inl ⟨by rfl, by intro W hW; clear hW; go_simp⟩) hHeld ?_
  simp only [put_laws]
  refine wpAnyH_ready (rs := [5]) (by kernel_rfl) (by simp) ?_
  refine AllReadyH.cons rfl (fun K hK => ?_) AllReadyH.nil
  obtain ⟨old, hold⟩ := hHeld.st.r0
  refine step_store_pool (by rfl) 31 (.tmp 6) (.tmp 51) (by rfl) (w.heap.size + 3) old Q1 31 (by rfl) (by rfl) hold pool_info ?_
  have hR0 := poolAt_put (q := Q1) hold
  have hHeld := hHeld.put0 Q1
  refine hK.out _ _ hHeld (fun hHeld => ?_)
  clear hK K hold
  refine wpAnyH_ready (rs := [6]) (by kernel_rfl) (by simp) ?_
  refine AllReadyH.cons rfl (fun K hK => ?_) AllReadyH.nil
  obtain ⟨old, hold⟩ := hHeld.st.r1
  refine step_store_pool (by rfl) 38 (.tmp 7) (.tmp 52) (by rfl) (w.heap.size + 4) old Q2 38 (by rfl) (by rfl) hold rpool_info ?_
  have hR0 := hR0.setRow (k := w.heap.size + 4) (poolA Q2) (by omega)
  have hR1 := poolAt_put (q := Q2) hold
  have hHeld := hHeld.put1 Q2
  refine hK.out _ _ hHeld (fun hHeld => ?_)
  clear hK K hold
  refine take_at 7 8 (.bool (E1 == E2)) rfl rfl (by kernel_rfl) (by kernel_rfl) (by kernel_rfl) (fun _ _ _ h => h) (Or.inl ⟨by rfl, by intro W hW; clear hW; go_simp⟩) hHeld ?_
  simp only [put_laws]
  refine wpAnyH_done (by kernel_rfl) ?_ _
  refine NoPanic.normal ?_
  go_wp2
  have hb := hHeld.st.bel
  refine bodyPost_ret (results_pools rfl _ _ (w.heap.size + 3) (w.heap.size + 4) 31 38 Q1 Q2 _ _ (.bool (E1 == E2)) rfl rfl rfl hR0 hR1 Tryd.underlying31 rfl pool_info Tryd.underlying38 rfl rpool_info) rfl ?_
  exact ⟨_, by rw [HQ1.out, HQ2.out], (fun h => by subst h; rw [← HE1.out, ← HE2.out]; simp), hb⟩
set_option maxHeartbeats 2000000 in
set_option maxRecDepth 100000 in
theorem does_edge3 (p m : Pl) (x : Po.Act) (w : World) (hA : DAsk p m x w) (hr : (x.kind : Int).tmod 6 = 3) :
    Calls Tryd.prog 13 #[.agg (poolA p), .agg (poolA m), .agg (actA x)] w (DPost p m ((Po.edge p x.a x.b).1) ((Po.edge m x.a x.b).1) w) := by
  have hz1 := (zero_of_info zero_pool_info).1
  have hz2 := (zero_of_info zero_rpool_info).1
  have H0 := Lib.hid (dst_first p m x w)
  have HA := Lib.hid hA
  have hk := hA.k
  have hc := H0.out.kind
  have hfa := H0.out.fa
  have hfb := H0.out.fb
  unfold dWorld at hc hfa hfb H0
  clear hA
  go_enter Tryd.func13, Tryd.ntmps13
  go_wp2_with (refine load_pool rfl 31 (.tmp 3) rfl w.heap.size p 31 rfl _ H0.out.po Tryd.underlying31 rfl pool_info ?_)
  refine (edge_any p x.a x.b _ HA.out.okp HA.out.a HA.out.b (tab_keep HA.out.t H0.out.bel)).mono ?_
  rintro e w1 ⟨rfl, hb1⟩
  generalize hq1 : (Po.edge p x.a x.b).1 = Q1
  generalize he1 : (Po.edge p x.a x.b).2 = E1
  have HQ1 := Lib.hid hq1
  have HE1 := Lib.hid he1
  clear hq1 he1
  have H1 := Lib.hid (H0.out.below hb1)
  have hfa1 := H1.out.fa
  have hfb1 := H1.out.fb
  clear hb1 H0 hc hfa hfb
  go_wp2_with (first
    | (refine wpList_letP rfl 31 (.tmp 9) (.tmp 40) rfl rfl w1 Q1 rfl rfl rfl pool_info ?_; intro w2 n2 hb2; have N2 := Lib.hid n2; have H2 := Lib.hid (H1.out.below hb2); have hfa2 := H2.out.fa; have hfb2 := H2.out.fb; have L2 := Lib.hid (show w.heap.size + 5 ≤ w1.heap.size from H1.out.size5); clear n2 hb2)
    | (refine load_pool rfl 38 (.tmp 4) rfl (w.heap.size + 1) m 38 rfl _ H2.out.pm Tryd.underlying38 rfl rpool_info ?_))
  refine (redge_any m x.a x.b _ HA.out.okm HA.out.a HA.out.b (tab_keep HA.out.t H2.out.bel)).mono ?_
  rintro e w3 ⟨rfl, hb3⟩
  generalize hq2 : (Po.edge m x.a x.b).1 = Q2
  generalize he2 : (Po.edge m x.a x.b).2 = E2
  have HQ2 := Lib.hid hq2
  have HE2 := Lib.hid he2
  clear hq2 he2
  have H3 := Lib.hid (H2.out.below hb3)
  have N3 := Lib.hid (N2.out.below hb3)
  clear hb3 H1 H2 N2 hfa1 hfb1 hfa2 hfb2
  go_wp2_with (refine wpList_letP rfl 38 (.tmp 11) (.tmp 49) rfl rfl w3 Q2 rfl rfl rfl rpool_info ?_; intro w4 n4 hb4; have H4 := Lib.hid (show DEnd p m x w w1.heap.size Q1 w3.heap.size Q2 w4 from ⟨H3.out.below hb4, N3.out.below hb4, n4, L2.out, H3.out.size5⟩); clear n4 hb4)
  refine wp_region_noPanic ?_
  refine region_start (S := DEnd p m x w w1.heap.size Q1 w3.heap.size Q2) 8 rfl (by kernel_rfl) (H4.out.below (below_drew _)) (fun hHeld => ?_)
  refine take_at 0 51 (.agg (poolA Q1)) rfl rfl (by kernel_rfl) (by kernel_rfl) (by kernel_rfl) (fun _ _ _ h => h) (yields_pool (by rfl) 31 (.tmp 9) rfl (w1.heap.size) rfl 31 (Q1) _ (fun W h => h.n1) Tryd.underlying31 rfl pool_info) hHeld ?_
  simp only [put_laws]
  refine take_at 1 52 (.agg (poolA Q2)) rfl rfl (by kernel_rfl) (by kernel_rfl) (by kernel_rfl) (fun _ _ _ h => h) (yields_pool (by rfl) 38 (.tmp 11) rfl (w3.heap.size) rfl 38 (Q2) _ (fun W h => h.n2) Tryd.underlying38 rfl rpool_info) hHeld ?_
  simp only [put_laws]
  refine take_at 2 53 (.int .i64 E1) rfl rfl (by kernel_rfl) (by kernel_rfl) (by kernel_rfl) (fun _ _ _ h => h) (Or.inl ⟨by rfl, by intro W hW; clear hW; go_simp⟩) hHeld ?_
  simp only [put_laws]
  refine take_at 3 54 (.int .i64 E2) rfl rfl (by kernel_rfl) (by kernel_rfl) (by kernel_rfl) (fun _ _ _ h => h) (Or.inl ⟨by rfl, by intro W hW; clear hW; go_simp⟩) hHeld ?_
  simp only [put_laws]
  refine take_at 4 55 (.bool (E1 == E2)) rfl rfl (by kernel_rfl) (by kernel_rfl) (by kernel_rfl) (fun _ _ _ h => h) (Or.inl ⟨by rfl, by intro W hW; clear hW; go_simp⟩) hHeld ?_
  simp only [put_laws]
  refine wpAnyH_ready (rs := [5]) (by kernel_rfl) (by simp) ?_
  refine AllReadyH.cons rfl (fun K hK => ?_) AllReadyH.nil
  obtain ⟨old, hold⟩ := hHeld.st.r0
  refine step_store_pool (by rfl) 31 (.tmp 6) (.tmp 51) (by rfl) (w.heap.size + 3) old Q1 31 (by rfl) (by rfl) hold pool_info ?_
  have hR0 := poolAt_put (q := Q1) hold
  have hHeld := hHeld.put0 Q1
  refine hK.out _ _ hHeld (fun hHeld => ?_)
  clear hK K hold
  refine wpAnyH_ready (rs := [6]) (by kernel_rfl) (by simp) ?_
  refine AllReadyH.cons rfl (fun K hK => ?_) AllReadyH.nil
  obtain ⟨old, hold⟩ := hHeld.st.r1
  refine step_store_pool (by rfl) 38 (.tmp 7) (.tmp 52) (by rfl) (w.heap.size + 4) old Q2 38 (by rfl) (by rfl) hold rpool_info ?_
  have hR0 := hR0.setRow (k := w.heap.size + 4) (poolA Q2) (by omega)
  have hR1 := poolAt_put (q := Q2) hold
  have hHeld := hHeld.put1 Q2
  refine hK.out _ _ hHeld (fun hHeld => ?_)
  clear hK K hold
  refine take_at 7 8 (.bool (E1 == E2)) rfl rfl (by kernel_rfl) (by kernel_rfl) (by kernel_rfl) (fun _ _ _ h => h) (Or.inl ⟨by rfl, by intro W hW; clear hW; go_simp⟩) hHeld ?_
  simp only [put_laws]
  refine wpAnyH_done (by kernel_rfl) ?_ _
  refine NoPanic.normal ?_
  go_wp2
  have hb := hHeld.st.bel
  refine bodyPost_ret (results_pools rfl _ _ (w.heap.size + 3) (w.heap.size + 4) 31 38 Q1 Q2 _ _ (.bool (E1 == E2)) rfl rfl rfl hR0 hR1 Tryd.underlying31 rfl pool_info Tryd.underlying38 rfl rpool_info) rfl ?_
  exact ⟨_, by rw [HQ1.out, HQ2.out], (fun h => by subst h; rw [← HE1.out, ← HE2.out]; simp), hb⟩
set_option maxHeartbeats 2000000 in
set_option maxRecDepth 100000 in
theorem does_end (p m : Pl) (x : Po.Act) (w : World) (hA : DAsk p m x w) (hr : (x.kind : Int).tmod 6 = 4) :
    Calls Tryd.prog 13 #[.agg (poolA p), .agg (poolA m), .agg (actA x)] w (DPost p m ((Po.endP p x.a).1) ((Po.endP m x.a).1) w) := by
  have hz1 := (zero_of_info zero_pool_info).1
  have hz2 := (zero_of_info zero_rpool_info).1
  have H0 := Lib.hid (dst_first p m x w)
  have HA := Lib.hid hA
  have hk := hA.k
  have hc := H0.out.kind
  have hfa := H0.out.fa
  have hfb := H0.out.fb
  unfold dWorld at hc hfa hfb H0
  clear hA
  go_enter Tryd.func13, Tryd.ntmps13
  go_wp2_with (refine load_pool rfl 31 (.tmp 3) rfl w.heap.size p 31 rfl _ H0.out.po Tryd.underlying31 rfl pool_info ?_)
  refine (end_any p x.a _ HA.out.okp HA.out.a.1 HA.out.a.2).mono ?_
  rintro e w1 ⟨rfl, hb1⟩
  generalize hq1 : (Po.endP p x.a).1 = Q1
  generalize he1 : (Po.endP p x.a).2 = E1
  have HQ1 := Lib.hid hq1
  have HE1 := Lib.hid he1
  clear hq1 he1
  have H1 := Lib.hid (H0.out.below hb1)
  have hfa1 := H1.out.fa
  have hfb1 := H1.out.fb
  clear hb1 H0 hc hfa hfb
  go_wp2_with (first
    | (refine wpList_letP rfl 31 (.tmp 13) (.tmp 63) rfl rfl w1 Q1 rfl rfl rfl pool_info ?_; intro w2 n2 hb2; have N2 := Lib.hid n2; have H2 := Lib.hid (H1.out.below hb2); have hfa2 := H2.out.fa; have hfb2 := H2.out.fb; have L2 := Lib.hid (show w.heap.size + 5 ≤ w1.heap.size from H1.out.size5); clear n2 hb2)
    | (refine load_pool rfl 38 (.tmp 4) rfl (w.heap.size + 1) m 38 rfl _ H2.out.pm Tryd.underlying38 rfl rpool_info ?_))
  refine (rend_any m x.a _ HA.out.okm HA.out.a.1 HA.out.a.2).mono ?_
  rintro e w3 ⟨rfl, hb3⟩
  generalize hq2 : (Po.endP m x.a).1 = Q2
  generalize he2 : (Po.endP m x.a).2 = E2
  have HQ2 := Lib.hid hq2
  have HE2 := Lib.hid he2
  clear hq2 he2
  have H3 := Lib.hid (H2.out.below hb3)
  have N3 := Lib.hid (N2.out.below hb3)
  clear hb3 H1 H2 N2 hfa1 hfb1 hfa2 hfb2
  go_wp2_with (refine wpList_letP rfl 38 (.tmp 15) (.tmp 70) rfl rfl w3 Q2 rfl rfl rfl rpool_info ?_; intro w4 n4 hb4; have H4 := Lib.hid (show DEnd p m x w w1.heap.size Q1 w3.heap.size Q2 w4 from ⟨H3.out.below hb4, N3.out.below hb4, n4, L2.out, H3.out.size5⟩); clear n4 hb4)
  refine wp_region_noPanic ?_
  refine region_start (S := DEnd p m x w w1.heap.size Q1 w3.heap.size Q2) 8 rfl (by kernel_rfl) (H4.out.below (below_drew _)) (fun hHeld => ?_)
  refine take_at 0 72 (.agg (poolA Q1)) rfl rfl (by kernel_rfl) (by kernel_rfl) (by kernel_rfl) (fun _ _ _ h => h) (yields_pool (by rfl) 31 (.tmp 13) rfl (w1.heap.size) rfl 31 (Q1) _ (fun W h => h.n1) Tryd.underlying31 rfl pool_info) hHeld ?_
  simp only [put_laws]
  refine take_at 1 73 (.agg (poolA Q2)) rfl rfl (by kernel_rfl) (by kernel_rfl) (by kernel_rfl) (fun _ _ _ h => h) (yields_pool (by rfl) 38 (.tmp 15) rfl (w3.heap.size) rfl 38 (Q2) _ (fun W h => h.n2) Tryd.underlying38 rfl rpool_info) hHeld ?_
  simp only [put_laws]
  refine take_at 2 74 (.int .i64 E1) rfl rfl (by kernel_rfl) (by kernel_rfl) (by kernel_rfl) (fun _ _ _ h => h) (Or.inl ⟨by rfl, by intro W hW; clear hW; go_simp⟩) hHeld ?_
  simp only [put_laws]
  refine take_at 3 75 (.int .i64 E2) rfl rfl (by kernel_rfl) (by kernel_rfl) (by kernel_rfl) (fun _ _ _ h => h) (Or.inl ⟨by rfl, by intro W hW; clear hW; go_simp⟩) hHeld ?_
  simp only [put_laws]
  refine take_at 4 76 (.bool (E1 == E2)) rfl rfl (by kernel_rfl) (by kernel_rfl) (by kernel_rfl) (fun _ _ _ h => h) (Or.inl ⟨by rfl, by intro W hW; clear hW; go_simp⟩) hHeld ?_
  simp only [put_laws]
  refine wpAnyH_ready (rs := [5]) (by kernel_rfl) (by simp) ?_
  refine AllReadyH.cons rfl (fun K hK => ?_) AllReadyH.nil
  obtain ⟨old, hold⟩ := hHeld.st.r0
  refine step_store_pool (by rfl) 31 (.tmp 6) (.tmp 72) (by rfl) (w.heap.size + 3) old Q1 31 (by rfl) (by rfl) hold pool_info ?_
  have hR0 := poolAt_put (q := Q1) hold
  have hHeld := hHeld.put0 Q1
  refine hK.out _ _ hHeld (fun hHeld => ?_)
  clear hK K hold
  refine wpAnyH_ready (rs := [6]) (by kernel_rfl) (by simp) ?_
  refine AllReadyH.cons rfl (fun K hK => ?_) AllReadyH.nil
  obtain ⟨old, hold⟩ := hHeld.st.r1
  refine step_store_pool (by rfl) 38 (.tmp 7) (.tmp 73) (by rfl) (w.heap.size + 4) old Q2 38 (by rfl) (by rfl) hold rpool_info ?_
  have hR0 := hR0.setRow (k := w.heap.size + 4) (poolA Q2) (by omega)
  have hR1 := poolAt_put (q := Q2) hold
  have hHeld := hHeld.put1 Q2
  refine hK.out _ _ hHeld (fun hHeld => ?_)
  clear hK K hold
  refine take_at 7 8 (.bool (E1 == E2)) rfl rfl (by kernel_rfl) (by kernel_rfl) (by kernel_rfl) (fun _ _ _ h => h) (Or.inl ⟨by rfl, by intro W hW; clear hW; go_simp⟩) hHeld ?_
  simp only [put_laws]
  refine wpAnyH_done (by kernel_rfl) ?_ _
  refine NoPanic.normal ?_
  go_wp2
  have hb := hHeld.st.bel
  refine bodyPost_ret (results_pools rfl _ _ (w.heap.size + 3) (w.heap.size + 4) 31 38 Q1 Q2 _ _ (.bool (E1 == E2)) rfl rfl rfl hR0 hR1 Tryd.underlying31 rfl pool_info Tryd.underlying38 rfl rpool_info) rfl ?_
  exact ⟨_, by rw [HQ1.out, HQ2.out], (fun h => by subst h; rw [← HE1.out, ← HE2.out]; simp), hb⟩
theorem coll_zero : (Po.collect zeroP).2 = [] := by rw [Po.collect_none (by rfl)]
theorem coll_i64 {p : Pl} (hp : p.Ok) : ∀ z ∈ (Po.collect p).2, i64s z := by
  refine Po.coll_ind (fun p r => p.Ok → ∀ z ∈ r.2, i64s z) (fun _ _ _ z hz => by simp at hz) ?_ p hp.done hp
  intro p s r _ hn ih hp z hz
  rw [List.mem_cons] at hz
  rcases hz with rfl | hz
  · exact hp.ids s (Po.next_spec hn).1
  · exact ih (going_ok hp s) z hz
set_option maxHeartbeats 1000000 in
set_option maxRecDepth 100000 in
theorem same_len (A B : Option Addr) (n k c d : Nat) (w : World) (h : n ≠ k) :
    Calls Tryd.prog 35 #[.slice A n c, .slice B k d] w fun e w' => e = .returned (.bool false) ∧ Below w.heap.size w w' := by
  have hne : ((n : Int) != (k : Int)) = true := by simp; omega
  go_enter Tryd.func35, Tryd.ntmps35
  go_wp2
  go_ret
  exact ⟨rfl, Below.refl _ _⟩
theorem same_coll {p m : Pl} (hp : p.Ok) (hc : m = p ∨ m = zeroP) {W : World} {b1 b2 : Nat} {v1 v2 : Value} (h1 : OwnI W b1 v1 (Po.collect p).2) (h2 : OwnI W b2 v2 (Po.collect m).2) :
    Calls Tryd.prog 35 #[v1, v2] W fun e w' => ∃ b, e = .returned (.bool b) ∧ (p = m → b = true) ∧ Below W.heap.size W w' := by
  rcases hc with rfl | rfl
  · exact (sameI (coll_i64 hp) h1 h2).mono fun e w' h => ⟨true, h.1, fun _ => rfl, h.2⟩
  · rw [coll_zero] at h2
    by_cases hl : (Po.collect p).2 = []
    · rw [hl] at h1
      exact (sameI (fun z hz => by simp at hz) h1 h2).mono fun e w' h => ⟨true, h.1, fun _ => rfl, h.2⟩
    · obtain ⟨A, c, rfl, _, _⟩ := h1.shape
      obtain ⟨B, d, rfl, _, _⟩ := h2.shape
      refine (same_len A B _ _ c d W (fun e => hl (List.eq_nil_of_length_eq_zero e))).mono fun e w' h => ⟨false, h.1, fun h' => ?_, h.2⟩
      subst h'
      exact absurd coll_zero hl
set_option maxHeartbeats 2000000 in
set_option maxRecDepth 100000 in
theorem does_coll (p m : Pl) (x : Po.Act) (w : World) (hA : DAsk p m x w) (hr : (x.kind : Int).tmod 6 = 5) :
    Calls Tryd.prog 13 #[.agg (poolA p), .agg (poolA m), .agg (actA x)] w (DPost p m ((Po.collect p).1) ((Po.collect m).1) w) := by
  have hz1 := (zero_of_info zero_pool_info).1
  have hz2 := (zero_of_info zero_rpool_info).1
  have H0 := Lib.hid (dst_first p m x w)
  have HA := Lib.hid hA
  have hk := hA.k
  have hc := H0.out.kind
  have hfa := H0.out.fa
  have hfb := H0.out.fb
  unfold dWorld at hc hfa hfb H0
  clear hA
  go_enter Tryd.func13, Tryd.ntmps13
  go_wp2_with (refine load_pool rfl 31 (.tmp 3) rfl w.heap.size p 31 rfl _ H0.out.po Tryd.underlying31 rfl pool_info ?_)
  refine (collect_any p _ HA.out.okp).mono ?_
  rintro e w1 ⟨y1, rfl, ho1, hb1⟩
  have O1 := Lib.hid (ho1.mono (base' := w.heap.size + 5) (by have := H0.out.size5; omega))
  generalize hq1 : (Po.collect p).1 = Q1
  have HQ1 := Lib.hid hq1
  clear hq1 ho1
  have H1 := Lib.hid (H0.out.below hb1)
  have hfa1 := H1.out.fa
  have hfb1 := H1.out.fb
  clear hb1 H0 hc hfa hfb
  go_wp2_with (first
    | (refine wpList_letP rfl 31 (.tmp 17) (.tmp 82) rfl rfl w1 Q1 rfl rfl rfl pool_info ?_; intro w2 n2 hb2; have N2 := Lib.hid n2; have H2 := Lib.hid (H1.out.below hb2); have hfa2 := H2.out.fa; have hfb2 := H2.out.fb; have L2 := Lib.hid (show w.heap.size + 5 ≤ w1.heap.size from H1.out.size5); have O2 := Lib.hid (O1.out.below hb2 (Nat.le_refl _)); clear n2 hb2)
    | (refine load_pool rfl 38 (.tmp 4) rfl (w.heap.size + 1) m 38 rfl _ H2.out.pm Tryd.underlying38 rfl rpool_info ?_))
  refine (rcollect_any m _ HA.out.okm).mono ?_
  rintro e w3 ⟨y2, rfl, ho3, hb3⟩
  have O3 := Lib.hid (ho3.mono (base' := w.heap.size + 5) (by have := H2.out.size5; omega))
  generalize hq2 : (Po.collect m).1 = Q2
  have HQ2 := Lib.hid hq2
  clear hq2 ho3
  have H3 := Lib.hid (H2.out.below hb3)
  have N3 := Lib.hid (N2.out.below hb3)
  have O4 := Lib.hid (O2.out.below hb3 (Nat.le_refl _))
  clear hb3 H1 H2 N2 hfa1 hfb1 hfa2 hfb2
  go_wp2_with (refine wpList_letP rfl 38 (.tmp 19) (.tmp 87) rfl rfl w3 Q2 rfl rfl rfl rpool_info ?_; intro w4 n4 hb4; have H4 := Lib.hid (show DEndC p m x w w1.heap.size Q1 w3.heap.size Q2 y1 (Po.collect p).2 y2 (Po.collect m).2 w4 from ⟨⟨H3.out.below hb4, N3.out.below hb4, n4, L2.out, H3.out.size5⟩, O4.out.below hb4 (Nat.le_refl _), O3.out.below hb4 (Nat.le_refl _)⟩); clear n4 hb4)
  refine wp_region_noPanic ?_
  refine region_start (S := DEndC p m x w w1.heap.size Q1 w3.heap.size Q2 y1 (Po.collect p).2 y2 (Po.collect m).2) 8 rfl (by kernel_rfl) (H4.out.below (below_drew _)) (fun hHeld => ?_)
  refine take_at 0 89 (.agg (poolA Q1)) rfl rfl (by kernel_rfl) (by kernel_rfl) (by kernel_rfl) (fun _ _ _ h => h) (yields_pool (by rfl) 31 (.tmp 17) rfl (w1.heap.size) rfl 31 (Q1) _ (fun W h => h.e.n1) Tryd.underlying31 rfl pool_info) hHeld ?_
  simp only [put_laws]
  refine take_at 1 90 (.agg (poolA Q2)) rfl rfl (by kernel_rfl) (by kernel_rfl) (by kernel_rfl) (fun _ _ _ h => h) (yields_pool (by rfl) 38 (.tmp 19) rfl (w3.heap.size) rfl 38 (Q2) _ (fun W h => h.e.n2) Tryd.underlying38 rfl rpool_info) hHeld ?_
  simp only [put_laws]
  refine take_at 2 91 (y1) rfl rfl (by kernel_rfl) (by kernel_rfl) (by kernel_rfl) (fun _ _ _ h => h) (Or.inl ⟨by rfl, by intro W hW; clear hW; go_simp⟩) hHeld ?_
  simp only [put_laws]
  refine take_at 3 92 (y2) rfl rfl (by kernel_rfl) (by kernel_rfl) (by kernel_rfl) (fun _ _ _ h => h) (Or.inl ⟨by rfl, by intro W hW; clear hW; go_simp⟩) hHeld ?_
  simp only [put_laws]
  refine wpAnyH_ready (rs := [4]) (by kernel_rfl) (by simp) ?_
  refine AllReadyH.cons rfl (fun K hK => ?_) AllReadyH.nil
  go_simp
  refine (same_coll HA.out.okp HA.out.cmp hHeld.r1 hHeld.r2).mono ?_
  rintro e w6 ⟨b, rfl, hbt, hb6⟩
  try go_simp
  have hHeld := hHeld.below hb6
  refine hK.out _ _ hHeld (fun hHeld => ?_)
  clear hK K
  refine wpAnyH_ready (rs := [5]) (by kernel_rfl) (by simp) ?_
  refine AllReadyH.cons rfl (fun K hK => ?_) AllReadyH.nil
  obtain ⟨old, hold⟩ := hHeld.e.st.r0
  refine step_store_pool (by rfl) 31 (.tmp 6) (.tmp 89) (by rfl) (w.heap.size + 3) old Q1 31 (by rfl) (by rfl) hold pool_info ?_
  have hR0 := poolAt_put (q := Q1) hold
  have hHeld := hHeld.put0 Q1
  refine hK.out _ _ hHeld (fun hHeld => ?_)
  clear hK K hold
  refine wpAnyH_ready (rs := [6]) (by kernel_rfl) (by simp) ?_
  refine AllReadyH.cons rfl (fun K hK => ?_) AllReadyH.nil
  obtain ⟨old, hold⟩ := hHeld.e.st.r1
  refine step_store_pool (by rfl) 38 (.tmp 7) (.tmp 90) (by rfl) (w.heap.size + 4) old Q2 38 (by rfl) (by rfl) hold rpool_info ?_
  have hR0 := hR0.setRow (k := w.heap.size + 4) (poolA Q2) (by omega)
  have hR1 := poolAt_put (q := Q2) hold
  have hHeld := hHeld.put1 Q2
  refine hK.out _ _ hHeld (fun hHeld => ?_)
  clear hK K hold
  refine take_at 7 8 (.bool b) rfl rfl (by kernel_rfl) (by kernel_rfl) (by kernel_rfl) (fun _ _ _ h => h) (Or.inl ⟨by rfl, by intro W hW; clear hW; go_simp⟩) hHeld ?_
  simp only [put_laws]
  refine wpAnyH_done (by kernel_rfl) ?_ _
  refine NoPanic.normal ?_
  go_wp2
  have hb := hHeld.e.st.bel
  refine bodyPost_ret (results_pools rfl _ _ (w.heap.size + 3) (w.heap.size + 4) 31 38 Q1 Q2 _ _ (.bool b) rfl rfl rfl hR0 hR1 Tryd.underlying31 rfl pool_info Tryd.underlying38 rfl rpool_info) rfl ?_
  exact ⟨_, by rw [HQ1.out, HQ2.out], hbt, hb⟩
set_option maxHeartbeats 2000000 in
set_option maxRecDepth 100000 in
theorem does_begin0 (p m : Pl) (x : Po.Act) (w : World) (hA : DAsk p m x w) (hr : (x.kind : Int).tmod 6 = 0) :
    Calls Tryd.prog 13 #[.agg (poolA p), .agg (poolA m), .agg (actA x)] w (DPost p m ((Po.begin p).1) ((Po.begin m).1) w) := by
  have hz1 := (zero_of_info zero_pool_info).1
  have hz2 := (zero_of_info zero_rpool_info).1
  have H0 := Lib.hid (dst_first p m x w)
  have HA := Lib.hid hA
  have hk := hA.k
  have hc := H0.out.kind
  have hfa := H0.out.fa
  have hfb := H0.out.fb
  unfold dWorld at hc hfa hfb H0
  clear hA
  go_enter Tryd.func13, Tryd.ntmps13
  go_wp2_with (refine load_pool rfl 31 (.tmp 3) rfl w.heap.size p 31 rfl _ H0.out.po Tryd.underlying31 rfl pool_info ?_)
  refine (begin_any p _ HA.out.okp HA.out.pc (tab_keep HA.out.t H0.out.bel)).mono ?_
  rintro e w1 ⟨rfl, hb1⟩
  generalize hq1 : (Po.begin p).1 = Q1
  generalize hs1 : (Po.begin p).2.1 = S1
  generalize he1 : (Po.begin p).2.2 = E1
  have HQ1 := Lib.hid hq1
  have HS1 := Lib.hid hs1
  have HE1 := Lib.hid he1
  clear hq1 he1 hs1
  have H1 := Lib.hid (H0.out.below hb1)
  have hfa1 := H1.out.fa
  have hfb1 := H1.out.fb
  clear hb1 H0 hc hfa hfb
  go_wp2_with (first
    | (refine wpList_letP rfl 31 (.tmp 21) (.tmp 97) rfl rfl w1 Q1 rfl rfl rfl pool_info ?_; intro w2 n2 hb2; have N2 := Lib.hid n2; have H2 := Lib.hid (H1.out.below hb2); have hfa2 := H2.out.fa; have hfb2 := H2.out.fb; have L2 := Lib.hid (show w.heap.size + 5 ≤ w1.heap.size from H1.out.size5); clear n2 hb2)
    | (refine load_pool rfl 38 (.tmp 4) rfl (w.heap.size + 1) m 38 rfl _ H2.out.pm Tryd.underlying38 rfl rpool_info ?_))
  refine (rbegin_any m _ HA.out.okm HA.out.ms HA.out.md HA.out.mc (tab_keep HA.out.t H2.out.bel)).mono ?_
  rintro e w3 ⟨rfl, hb3⟩
  generalize hq2 : (Po.begin m).1 = Q2
  generalize hs2 : (Po.begin m).2.1 = S2
  generalize he2 : (Po.begin m).2.2 = E2
  have HQ2 := Lib.hid hq2
  have HS2 := Lib.hid hs2
  have HE2 := Lib.hid he2
  clear hq2 he2 hs2
  have H3 := Lib.hid (H2.out.below hb3)
  have N3 := Lib.hid (N2.out.below hb3)
  clear hb3 H1 H2 N2 hfa1 hfb1 hfa2 hfb2
  go_wp2_with (refine wpList_letP rfl 38 (.tmp 24) (.tmp 103) rfl rfl w3 Q2 rfl rfl rfl rpool_info ?_; intro w4 n4 hb4; have H4 := Lib.hid (show DEnd p m x w w1.heap.size Q1 w3.heap.size Q2 w4 from ⟨H3.out.below hb4, N3.out.below hb4, n4, L2.out, H3.out.size5⟩); clear n4 hb4)
  by_cases hS : S1 = S2
  · subst hS
    refine wp_region_noPanic ?_
    refine region_start (S := DEnd p m x w w1.heap.size Q1 w3.heap.size Q2) 13 rfl (by kernel_rfl) (H4.out.below (below_drew _)) (fun hHeld => ?_)
    refine take_at 0 106 (.agg (poolA Q1)) rfl rfl (by kernel_rfl) (by kernel_rfl) (by kernel_rfl) (fun _ _ _ h => h) (yields_pool (by rfl) 31 (.tmp 21) rfl (w1.heap.size) rfl 31 (Q1) _ (fun W h => h.n1) Tryd.underlying31 rfl pool_info) hHeld ?_
    simp only [put_laws]
    refine take_at 1 107 (.agg (poolA Q2)) rfl rfl (by kernel_rfl) (by kernel_rfl) (by kernel_rfl) (fun _ _ _ h => h) (yields_pool (by rfl) 38 (.tmp 24) rfl (w3.heap.size) rfl 38 (Q2) _ (fun W h => h.n2) Tryd.underlying38 rfl rpool_info) hHeld ?_
    simp only [put_laws]
    refine take_at 2 108 (.int .i64 S1) rfl rfl (by kernel_rfl) (by kernel_rfl) (by kernel_rfl) (fun _ _ _ h => h) (Or.inl ⟨by rfl, by intro W hW; clear hW; go_simp⟩) hHeld ?_
    simp only [put_laws]
    refine take_at 3 109 (.int .i64 S1) rfl rfl (by kernel_rfl) (by kernel_rfl) (by kernel_rfl) (fun _ _ _ h => h) (Or.inl ⟨by rfl, by intro W hW; clear hW; go_simp⟩) hHeld ?_
    simp only [put_laws]
    refine take_at 4 110 (.bool true) rfl rfl (by kernel_rfl) (by kernel_rfl) (by kernel_rfl) (fun _ _ _ h => h) (Or.inl ⟨by rfl, by intro W hW; clear hW; go_simp⟩) hHeld ?_
    simp only [put_laws]
    refine take_at 5 111 (.bool true) rfl rfl (by kernel_rfl) (by kernel_rfl) (by kernel_rfl) (fun _ _ _ h => h) (Or.inl ⟨by rfl, by intro W hW; clear hW; go_simp⟩) hHeld ?_
    simp only [put_laws]
    refine take_at 6 112 (.int .i64 E1) rfl rfl (by kernel_rfl) (by kernel_rfl) (by kernel_rfl) (fun _ _ _ h => h) (Or.inl ⟨by rfl, by intro W hW; clear hW; go_simp⟩) hHeld ?_
    simp only [put_laws]
    refine take_at 7 113 (.int .i64 E2) rfl rfl (by kernel_rfl) (by kernel_rfl) (by kernel_rfl) (fun _ _ _ h => h) (Or.inl ⟨by rfl, by intro W hW; clear hW; go_simp⟩) hHeld ?_
    simp only [put_laws]
    refine take_at 8 114 (.bool (E1 == E2)) rfl rfl (by kernel_rfl) (by kernel_rfl) (by kernel_rfl) (fun _ _ _ h => h) (Or.inl ⟨by rfl, by intro W hW; clear hW; go_simp⟩) hHeld ?_
    simp only [put_laws]
    refine take_at 9 115 (.bool (E1 == E2)) rfl rfl (by kernel_rfl) (by kernel_rfl) (by kernel_rfl) (fun _ _ _ h => h) (Or.inl ⟨by rfl, by intro W hW; clear hW; go_simp⟩) hHeld ?_
    simp only [put_laws]
    refine wpAnyH_ready (rs := [10]) (by kernel_rfl) (by simp) ?_
    refine AllReadyH.cons rfl (fun K hK => ?_) AllReadyH.nil
    obtain ⟨old, hold⟩ := hHeld.st.r0
    refine step_store_pool (by rfl) 31 (.tmp 6) (.tmp 106) (by rfl) (w.heap.size + 3) old Q1 31 (by rfl) (by rfl) hold pool_info ?_
    have hR0 := poolAt_put (q := Q1) hold
    have hHeld := hHeld.put0 Q1
    refine hK.out _ _ hHeld (fun hHeld => ?_)
    clear hK K hold
    refine wpAnyH_ready (rs := [11]) (by kernel_rfl) (by simp) ?_
    refine AllReadyH.cons rfl (fun K hK => ?_) AllReadyH.nil
    obtain ⟨old, hold⟩ := hHeld.st.r1
    refine step_store_pool (by rfl) 38 (.tmp 7) (.tmp 107) (by rfl) (w.heap.size + 4) old Q2 38 (by rfl) (by rfl) hold rpool_info ?_
    have hR0 := hR0.setRow (k := w.heap.size + 4) (poolA Q2) (by omega)
    have hR1 := poolAt_put (q := Q2) hold
    have hHeld := hHeld.put1 Q2
    refine hK.out _ _ hHeld (fun hHeld => ?_)
    clear hK K hold
    refine take_at 12 8 (.bool (E1 == E2)) rfl rfl (by kernel_rfl) (by kernel_rfl) (by kernel_rfl) (fun _ _ _ h => h) (Or.inl ⟨by rfl, by intro W hW; clear hW; go_simp⟩) hHeld ?_
    simp only [put_laws]
    refine wpAnyH_done (by kernel_rfl) ?_ _
    refine NoPanic.normal ?_
    go_wp2
    have hb := hHeld.st.bel
    refine bodyPost_ret (results_pools rfl _ _ (w.heap.size + 3) (w.heap.size + 4) 31 38 Q1 Q2 _ _ (.bool (E1 == E2)) rfl rfl rfl hR0 hR1 Tryd.underlying31 rfl pool_info Tryd.underlying38 rfl rpool_info) rfl ?_
    exact ⟨_, by rw [HQ1.out, HQ2.out], (fun h => by subst h; rw [← HE1.out, ← HE2.out]; simp), hb⟩
  · have HNE := Lib.hid (show (S1 == S2) = false by simpa using hS)
    have HSN := Lib.hid hS
    clear hS
    refine wp_region_noPanic ?_
    refine region_start (S := DEnd p m x w w1.heap.size Q1 w3.heap.size Q2) 13 rfl (by kernel_rfl) (H4.out.below (below_drew _)) (fun hHeld => ?_)
    refine take_at 0 106 (.agg (poolA Q1)) rfl rfl (by kernel_rfl) (by kernel_rfl) (by kernel_rfl) (fun _ _ _ h => h) (yields_pool (by rfl) 31 (.tmp 21) rfl (w1.heap.size) rfl 31 (Q1) _ (fun W h => h.n1) Tryd.underlying31 rfl pool_info) hHeld ?_
    simp only [put_laws]
    refine take_at 1 107 (.agg (poolA Q2)) rfl rfl (by kernel_rfl) (by kernel_rfl) (by kernel_rfl) (fun _ _ _ h => h) (yields_pool (by rfl) 38 (.tmp 24) rfl (w3.heap.size) rfl 38 (Q2) _ (fun W h => h.n2) Tryd.underlying38 rfl rpool_info) hHeld ?_
    simp only [put_laws]
    refine take_at 2 108 (.int .i64 S1) rfl rfl (by kernel_rfl) (by kernel_rfl) (by kernel_rfl) (fun _ _ _ h => h) (Or.inl ⟨by rfl, by intro W hW; clear hW; go_simp⟩) hHeld ?_
    simp only [put_laws]
    refine take_at 3 109 (.int .i64 S2) rfl rfl (by kernel_rfl) (by kernel_rfl) (by kernel_rfl) (fun _ _ _ h => h) (Or.inl ⟨by rfl, by intro W hW; clear hW; go_simp⟩) hHeld ?_
    simp only [put_laws]
    refine take_at 4 110 (.bool false) rfl rfl (by kernel_rfl) (by kernel_rfl) (by kernel_rfl) (fun _ _ _ h => h) (Or.inl ⟨by rfl, by intro W hW; have hx := HNE.out; clear hW; go_simp⟩) hHeld ?_
    simp only [put_laws]
    refine take_at 5 111 (.bool false) rfl rfl (by kernel_rfl) (by kernel_rfl) (by kernel_rfl) (fun _ _ _ h => h) (Or.inl ⟨by rfl, by intro W hW; clear hW; go_simp⟩) hHeld ?_
    simp only [put_laws]
    refine take_at 6 112 undef rfl rfl (by kernel_rfl) (by kernel_rfl) (by kernel_rfl) (fun _ _ _ h => h) (Or.inr ⟨by rfl, rfl⟩) hHeld ?_
    simp only [put_laws]
    refine take_at 7 113 undef rfl rfl (by kernel_rfl) (by kernel_rfl) (by kernel_rfl) (fun _ _ _ h => h) (Or.inr ⟨by rfl, rfl⟩) hHeld ?_
    simp only [put_laws]
    refine take_at 8 114 undef rfl rfl (by kernel_rfl) (by kernel_rfl) (by kernel_rfl) (fun _ _ _ h => h) (Or.inr ⟨by rfl, rfl⟩) hHeld ?_
    simp only [put_laws]
    refine take_at 9 115 (.bool false) rfl rfl (by kernel_rfl) (by kernel_rfl) (by kernel_rfl) (fun _ _ _ h => h) (Or.inl ⟨by rfl, by intro W hW; clear hW; go_simp⟩) hHeld ?_
    simp only [put_laws]
    refine wpAnyH_ready (rs := [10]) (by kernel_rfl) (by simp) ?_
    refine AllReadyH.cons rfl (fun K hK => ?_) AllReadyH.nil
    obtain ⟨old, hold⟩ := hHeld.st.r0
    refine step_store_pool (by rfl) 31 (.tmp 6) (.tmp 106) (by rfl) (w.heap.size + 3) old Q1 31 (by rfl) (by rfl) hold pool_info ?_
    have hR0 := poolAt_put (q := Q1) hold
    have hHeld := hHeld.put0 Q1
    refine hK.out _ _ hHeld (fun hHeld => ?_)
    clear hK K hold
    refine wpAnyH_ready (rs := [11]) (by kernel_rfl) (by simp) ?_
    refine AllReadyH.cons rfl (fun K hK => ?_) AllReadyH.nil
    obtain ⟨old, hold⟩ := hHeld.st.r1
    refine step_store_pool (by rfl) 38 (.tmp 7) (.tmp 107) (by rfl) (w.heap.size + 4) old Q2 38 (by rfl) (by rfl) hold rpool_info ?_
    have hR0 := hR0.setRow (k := w.heap.size + 4) (poolA Q2) (by omega)
    have hR1 := poolAt_put (q := Q2) hold
    have hHeld := hHeld.put1 Q2
    refine hK.out _ _ hHeld (fun hHeld => ?_)
    clear hK K hold
    refine take_at 12 8 (.bool false) rfl rfl (by kernel_rfl) (by kernel_rfl) (by kernel_rfl) (fun _ _ _ h => h) (Or.inl ⟨by rfl, by intro W hW; clear hW; go_simp⟩) hHeld ?_
    simp only [put_laws]
    refine wpAnyH_done (by kernel_rfl) ?_ _
    refine NoPanic.normal ?_
    go_wp2
    have hb := hHeld.st.bel
    refine bodyPost_ret (results_pools rfl _ _ (w.heap.size + 3) (w.heap.size + 4) 31 38 Q1 Q2 _ _ (.bool false) rfl rfl rfl hR0 hR1 Tryd.underlying31 rfl pool_info Tryd.underlying38 rfl rpool_info) rfl ?_
    exact ⟨_, by rw [HQ1.out, HQ2.out], (fun h => by subst h; exact absurd (HS1.out.symm.trans HS2.out) HSN.out), hb⟩
set_option maxHeartbeats 2000000 in
set_option maxRecDepth 100000 in
theorem does_begin1 (p m : Pl) (x : Po.Act) (w : World) (hA : DAsk p m x w) (hr : (x.kind : Int).tmod 6 = 1) :
    Calls Tryd.prog 13 #[.agg (poolA p), .agg (poolA m), .agg (actA x)] w (DPost p m ((Po.begin p).1) ((Po.begin m).1) w) := by
  have hz1 := (zero_of_info zero_pool_info).1
  have hz2 := (zero_of_info zero_rpool_info).1
  have H0 := Lib.hid (dst_first p m x w)
  have HA := Lib.hid hA
  have hk := hA.k
  have hc := H0.out.kind
  have hfa := H0.out.fa
  have hfb := H0.out.fb
  unfold dWorld at hc hfa hfb H0
  clear hA
  go_enter Tryd.func13, Tryd.ntmps13
  go_wp2_with (refine load_pool rfl 31 (.tmp 3) rfl w.heap.size p 31 rfl _ H0.out.po Tryd.underlying31 rfl pool_info ?_)
  refine (begin_any p _ HA.out.okp HA.out.pc (tab_keep HA.out.t H0.out.bel)).mono ?_
  rintro e w1 ⟨rfl, hb1⟩
  generalize hq1 : (Po.begin p).1 = Q1
  generalize hs1 : (Po.begin p).2.1 = S1
  generalize he1 : (Po.begin p).2.2 = E1
  have HQ1 := Lib.hid hq1
  have HS1 := Lib.hid hs1
  have HE1 := Lib.hid he1
  clear hq1 he1 hs1
  have H1 := Lib.hid (H0.out.below hb1)
  have hfa1 := H1.out.fa
  have hfb1 := H1.out.fb
  clear hb1 H0 hc hfa hfb
  go_wp2_with (first
    | (refine wpList_letP rfl 31 (.tmp 21) (.tmp 97) rfl rfl w1 Q1 rfl rfl rfl pool_info ?_; intro w2 n2 hb2; have N2 := Lib.hid n2; have H2 := Lib.hid (H1.out.below hb2); have hfa2 := H2.out.fa; have hfb2 := H2.out.fb; have L2 := Lib.hid (show w.heap.size + 5 ≤ w1.heap.size from H1.out.size5); clear n2 hb2)
    | (refine load_pool rfl 38 (.tmp 4) rfl (w.heap.size + 1) m 38 rfl _ H2.out.pm Tryd.underlying38 rfl rpool_info ?_))
  refine (rbegin_any m _ HA.out.okm HA.out.ms HA.out.md HA.out.mc (tab_keep HA.out.t H2.out.bel)).mono ?_
  rintro e w3 ⟨rfl, hb3⟩
  generalize hq2 : (Po.begin m).1 = Q2
  generalize hs2 : (Po.begin m).2.1 = S2
  generalize he2 : (Po.begin m).2.2 = E2
  have HQ2 := Lib.hid hq2
  have HS2 := Lib.hid hs2
  have HE2 := Lib.hid he2
  clear hq2 he2 hs2
  have H3 := Lib.hid (H2.out.below hb3)
  have N3 := Lib.hid (N2.out.below hb3)
  clear hb3 H1 H2 N2 hfa1 hfb1 hfa2 hfb2
  go_wp2_with (refine wpList_letP rfl 38 (.tmp 24) (.tmp 103) rfl rfl w3 Q2 rfl rfl rfl rpool_info ?_; intro w4 n4 hb4; have H4 := Lib.hid (show DEnd p m x w w1.heap.size Q1 w3.heap.size Q2 w4 from ⟨H3.out.below hb4, N3.out.below hb4, n4, L2.out, H3.out.size5⟩); clear n4 hb4)
  by_cases hS : S1 = S2
  · subst hS
    refine wp_region_noPanic ?_
    refine region_start (S := DEnd p m x w w1.heap.size Q1 w3.heap.size Q2) 13 rfl (by kernel_rfl) (H4.out.below (below_drew _)) (fun hHeld => ?_)
    refine take_at 0 106 (.agg (poolA Q1)) rfl rfl (by kernel_rfl) (by kernel_rfl) (by kernel_rfl) (fun _ _ _ h => h) (yields_pool (by rfl) 31 (.tmp 21) rfl (w1.heap.size) rfl 31 (Q1) _ (fun W h => h.n1) Tryd.underlying31 rfl pool_info) hHeld ?_
    simp only [put_laws]
    refine take_at 1 107 (.agg (poolA Q2)) rfl rfl (by kernel_rfl) (by kernel_rfl) (by kernel_rfl) (fun _ _ _ h => h) (yields_pool (by rfl) 38 (.tmp 24) rfl (w3.heap.size) rfl 38 (Q2) _ (fun W h => h.n2) Tryd.underlying38 rfl rpool_info) hHeld ?_
    simp only [put_laws]
    refine take_at 2 108 (.int .i64 S1) rfl rfl (by kernel_rfl) (by kernel_rfl) (by kernel_rfl) (fun _ _ _ h => h) (Or.inl ⟨by rfl, by intro W hW; clear hW; go_simp⟩) hHeld ?_
    simp only [put_laws]
    refine take_at 3 109 (.int .i64 S1) rfl rfl (by kernel_rfl) (by kernel_rfl) (by kernel_rfl) (fun _ _ _ h => h) (Or.inl ⟨by rfl, by intro W hW; clear hW; go_simp⟩) hHeld ?_
    simp only [put_laws]
    refine take_at 4 110 (.bool true) rfl rfl (by kernel_rfl) (by kernel_rfl) (by kernel_rfl) (fun _ _ _ h => h) (Or.inl ⟨by rfl, by intro W hW; clear hW; go_simp⟩) hHeld ?_
    simp only [put_laws]
    refine take_at 5 111 (.bool true) rfl rfl (by kernel_rfl) (by kernel_rfl) (by kernel_rfl) (fun _ _ _ h => h) (Or.inl ⟨by rfl, by intro W hW; clear hW; go_simp⟩) hHeld ?_
    simp only [put_laws]
    refine take_at 6 112 (.int .i64 E1) rfl rfl (by kernel_rfl) (by kernel_rfl) (by kernel_rfl) (fun _ _ _ h => h) (Or.inl ⟨by rfl, by intro W hW; clear hW; go_simp⟩) hHeld ?_
    simp only [put_laws]
    refine take_at 7 113 (.int .i64 E2) rfl rfl (by kernel_rfl) (by kernel_rfl) (by kernel_rfl) (fun _ _ _ h => h) (Or.inl ⟨by rfl, by intro W hW; clear hW; go_simp⟩) hHeld ?_
    simp only [put_laws]
    refine take_at 8 114 (.bool (E1 == E2)) rfl rfl (by kernel_rfl) (by kernel_rfl) (by kernel_rfl) (fun _ _ _ h => h) (Or.inl ⟨by rfl, by intro W hW; clear hW; go_simp⟩) hHeld ?_
    simp only [put_laws]
    refine take_at 9 115 (.bool (E1 == E2)) rfl rfl (by kernel_rfl) (by kernel_rfl) (by kernel_rfl) (fun _ _ _ h => h) (Or.inl ⟨by rfl, by intro W hW; clear hW; go_simp⟩) hHeld ?_
    simp only [put_laws]
    refine wpAnyH_ready (rs := [10]) (by kernel_rfl) (by simp) ?_
    refine AllReadyH.cons rfl (fun K hK => ?_) AllReadyH.nil
    obtain ⟨old, hold⟩ := hHeld.st.r0
    refine step_store_pool (by rfl) 31 (.tmp 6) (.tmp 106) (by rfl) (w.heap.size + 3) old Q1 31 (by rfl) (by rfl) hold pool_info ?_
    have hR0 := poolAt_put (q := Q1) hold
    have hHeld := hHeld.put0 Q1
    refine hK.out _ _ hHeld (fun hHeld => ?_)
    clear hK K hold
    refine wpAnyH_ready (rs := [11]) (by kernel_rfl) (by simp) ?_
    refine AllReadyH.cons rfl (fun K hK => ?_) AllReadyH.nil
    obtain ⟨old, hold⟩ := hHeld.st.r1
    refine step_store_pool (by rfl) 38 (.tmp 7) (.tmp 107) (by rfl) (w.heap.size + 4) old Q2 38 (by rfl) (by rfl) hold rpool_info ?_
    have hR0 := hR0.setRow (k := w.heap.size + 4) (poolA Q2) (by omega)
    have hR1 := poolAt_put (q := Q2) hold
    have hHeld := hHeld.put1 Q2
    refine hK.out _ _ hHeld (fun hHeld => ?_)
    clear hK K hold
    refine take_at 12 8 (.bool (E1 == E2)) rfl rfl (by kernel_rfl) (by kernel_rfl) (by kernel_rfl) (fun _ _ _ h => h) (Or.inl ⟨by rfl, by intro W hW; clear hW; go_simp⟩) hHeld ?_
    simp only [put_laws]
    refine wpAnyH_done (by kernel_rfl) ?_ _
    refine NoPanic.normal ?_
    go_wp2
    have hb := hHeld.st.bel
    refine bodyPost_ret (results_pools rfl _ _ (w.heap.size + 3) (w.heap.size + 4) 31 38 Q1 Q2 _ _ (.bool (E1 == E2)) rfl rfl rfl hR0 hR1 Tryd.underlying31 rfl pool_info Tryd.underlying38 rfl rpool_info) rfl ?_
    exact ⟨_, by rw [HQ1.out, HQ2.out], (fun h => by subst h; rw [← HE1.out, ← HE2.out]; simp), hb⟩
  · have HNE := Lib.hid (show (S1 == S2) = false by simpa using hS)
    have HSN := Lib.hid hS
    clear hS
    refine wp_region_noPanic ?_
    refine region_start (S := DEnd p m x w w1.heap.size Q1 w3.heap.size Q2) 13 rfl (by kernel_rfl) (H4.out.below (below_drew _)) (fun hHeld => ?_)
    refine take_at 0 106 (.agg (poolA Q1)) rfl rfl (by kernel_rfl) (by kernel_rfl) (by kernel_rfl) (fun _ _ _ h => h) (yields_pool (by rfl) 31 (.tmp 21) rfl (w1.heap.size) rfl 31 (Q1) _ (fun W h => h.n1) Tryd.underlying31 rfl pool_info) hHeld ?_
    simp only [put_laws]
    refine take_at 1 107 (.agg (poolA Q2)) rfl rfl (by kernel_rfl) (by kernel_rfl) (by kernel_rfl) (fun _ _ _ h => h) (yields_pool (by rfl) 38 (.tmp 24) rfl (w3.heap.size) rfl 38 (Q2) _ (fun W h => h.n2) Tryd.underlying38 rfl rpool_info) hHeld ?_
    simp only [put_laws]
    refine take_at 2 108 (.int .i64 S1) rfl rfl (by kernel_rfl) (by kernel_rfl) (by kernel_rfl) (fun _ _ _ h => h) (Or.inl ⟨by rfl, by intro W hW; clear hW; go_simp⟩) hHeld ?_
    simp only [put_laws]
    refine take_at 3 109 (.int .i64 S2) rfl rfl (by kernel_rfl) (by kernel_rfl) (by kernel_rfl) (fun _ _ _ h => h) (Or.inl ⟨by rfl, by intro W hW; clear hW; go_simp⟩) hHeld ?_
    simp only [put_laws]
    refine take_at 4 110 (.bool false) rfl rfl (by kernel_rfl) (by kernel_rfl) (by kernel_rfl) (fun _ _ _ h => h) (Or.inl ⟨by rfl, by intro W hW; have hx := HNE.out; clear hW; go_simp⟩) hHeld ?_
    simp only [put_laws]
    refine take_at 5 111 (.bool false) rfl rfl (by kernel_rfl) (by kernel_rfl) (by kernel_rfl) (fun _ _ _ h => h) (Or.inl ⟨by rfl, by intro W hW; clear hW; go_simp⟩) hHeld ?_
    simp only [put_laws]
    refine take_at 6 112 undef rfl rfl (by kernel_rfl) (by kernel_rfl) (by kernel_rfl) (fun _ _ _ h => h) (Or.inr ⟨by rfl, rfl⟩) hHeld ?_
    simp only [put_laws]
    refine take_at 7 113 undef rfl rfl (by kernel_rfl) (by kernel_rfl) (by kernel_rfl) (fun _ _ _ h => h) (Or.inr ⟨by rfl, rfl⟩) hHeld ?_
    simp only [put_laws]
    refine take_at 8 114 undef rfl rfl (by kernel_rfl) (by kernel_rfl) (by kernel_rfl) (fun _ _ _ h => h) (Or.inr ⟨by rfl, rfl⟩) hHeld ?_
    simp only [put_laws]
    refine take_at 9 115 (.bool false) rfl rfl (by kernel_rfl) (by kernel_rfl) (by kernel_rfl) (fun _ _ _ h => h) (Or.inl ⟨by rfl, by intro W hW; clear hW; go_simp⟩) hHeld ?_
    simp only [put_laws]
    refine wpAnyH_ready (rs := [10]) (by kernel_rfl) (by simp) ?_
    refine AllReadyH.cons rfl (fun K hK => ?_) AllReadyH.nil
    obtain ⟨old, hold⟩ := hHeld.st.r0
    refine step_store_pool (by rfl) 31 (.tmp 6) (.tmp 106) (by rfl) (w.heap.size + 3) old Q1 31 (by rfl) (by rfl) hold pool_info ?_
    have hR0 := poolAt_put (q := Q1) hold
    have hHeld := hHeld.put0 Q1
    refine hK.out _ _ hHeld (fun hHeld => ?_)
    clear hK K hold
    refine wpAnyH_ready (rs := [11]) (by kernel_rfl) (by simp) ?_
    refine AllReadyH.cons rfl (fun K hK => ?_) AllReadyH.nil
    obtain ⟨old, hold⟩ := hHeld.st.r1
    refine step_store_pool (by rfl) 38 (.tmp 7) (.tmp 107) (by rfl) (w.heap.size + 4) old Q2 38 (by rfl) (by rfl) hold rpool_info ?_
    have hR0 := hR0.setRow (k := w.heap.size + 4) (poolA Q2) (by omega)
    have hR1 := poolAt_put (q := Q2) hold
    have hHeld := hHeld.put1 Q2
    refine hK.out _ _ hHeld (fun hHeld => ?_)
    clear hK K hold
    refine take_at 12 8 (.bool false) rfl rfl (by kernel_rfl) (by kernel_rfl) (by kernel_rfl) (fun _ _ _ h => h) (Or.inl ⟨by rfl, by intro W hW; clear hW; go_simp⟩) hHeld ?_
    simp only [put_laws]
    refine wpAnyH_done (by kernel_rfl) ?_ _
    refine NoPanic.normal ?_
    go_wp2
    have hb := hHeld.st.bel
    refine bodyPost_ret (results_pools rfl _ _ (w.heap.size + 3) (w.heap.size + 4) 31 38 Q1 Q2 _ _ (.bool false) rfl rfl rfl hR0 hR1 Tryd.underlying31 rfl pool_info Tryd.underlying38 rfl rpool_info) rfl ?_
    exact ⟨_, by rw [HQ1.out, HQ2.out], (fun h => by subst h; exact absurd (HS1.out.symm.trans HS2.out) HSN.out), hb⟩
theorem kind_mod (x : Po.Act) (r : Nat) (h : x.kind % 6 = r) : (x.kind : Int).tmod 6 = (r : Nat) := by
  rw [Int.tmod_eq_emod_of_nonneg (by omega)]; omega
theorem does_any (p m : Pl) (x : Po.Act) (w : World) (hA : DAsk p m x w) : Calls Tryd.prog 13 #[.agg (poolA p), .agg (poolA m), .agg (actA x)] w (DPost p m (Po.act p x) (Po.act m x) w) := by
  have hlt : x.kind % 6 < 6 := Nat.mod_lt _ (by decide)
  have cs : x.kind % 6 = 0 ∨ x.kind % 6 = 1 ∨ x.kind % 6 = 2 ∨ x.kind % 6 = 3 ∨ x.kind % 6 = 4 ∨ x.kind % 6 = 5 := by omega
  unfold Po.act
  rcases cs with h | h | h | h | h | h
  · rw [h]; exact does_begin0 p m x w hA (kind_mod x 0 h)
  · rw [h]; exact does_begin1 p m x w hA (kind_mod x 1 h)
  · rw [h]; exact does_edge2 p m x w hA (kind_mod x 2 h)
  · rw [h]; exact does_edge3 p m x w hA (kind_mod x 3 h)
  · rw [h]; exact does_end p m x w hA (kind_mod x 4 h)
  · rw [h]; exact does_coll p m x w hA (kind_mod x 5 h)
end Go.Proofs.YtakoceablbgchaaDoor
namespace Go.Proofs.YtakoceablbgchaaDoor
open Go.RowKit
attribute [local go_sem ↓] Go.wp_at_zero Go.wp_at_succ
noncomputable def q1 : Pl := Po.begun (Po.newP 2) 0
noncomputable def q2 : Pl := Po.begun q1 1
noncomputable def q3 : Pl := (Po.edge q2 1 0).1
noncomputable def q4 : Pl := (Po.endP q3 1).1
noncomputable def q5 : Pl := (Po.collect q4).1
theorem q0_sound : Po.Sound (Po.newP 2) := Po.new_sound (by decide)
theorem begin0 : Po.begin (Po.newP 2) = (q1, 0, 0) := by
  unfold Po.begin
  rw [Po.ff_some (s := 0) (by decide) (by decide) (fun j hj => by omega)]; rfl
theorem q1_m : q1.m = zeroM ∧ q1.o = Od.newO ∧ q1.live = 1 ∧ q1.done = 0 ∧ q1.count = 1 ∧ q1.size = 2 ∧ q1.ids = Od.upd zeroO 0 1 := ⟨rfl, rfl, rfl, rfl, rfl, rfl, rfl⟩
theorem begin1 : Po.begin q1 = (q2, 1, 0) := by
  unfold Po.begin
  rw [Po.ff_some (s := 1) (by decide) (by unfold Po.freeAt; rw [q1_m.2.2.1, q1_m.2.2.2.1, q1_m.2.2.2.2.2.1]; decide) (fun j hj => by
    obtain rfl : j = 0 := by omega
    unfold Po.freeAt; rw [q1_m.2.2.1, q1_m.2.2.2.1, q1_m.2.2.2.2.2.1]; decide)]; rfl
theorem q2_m : q2.m = zeroM ∧ q2.o = Od.newO ∧ q2.live = 3 ∧ q2.done = 0 ∧ q2.count = 2 ∧ q2.size = 2 ∧ q2.ids = Od.upd (Od.upd zeroO 0 1) 1 2 := ⟨rfl, rfl, rfl, rfl, rfl, rfl, rfl⟩
theorem begin2 : Po.begin q2 = (q2, 0, 4) := by
  unfold Po.begin
  rw [Po.ff_none fun j hj => ?_]
  unfold Po.freeAt
  rw [q2_m.2.2.1, q2_m.2.2.2.1, q2_m.2.2.2.2.2.1]
  rcases Nat.lt_or_ge j 2 with h | h
  · have : j = 0 ∨ j = 1 := by omega
    rcases this with rfl | rfl <;> decide
  · rw [decide_eq_false (by omega)]; rfl
theorem zero_sorted' : Od.Sorted zeroM Od.newO := Od.new_sorted zero_E
theorem ins10 : ∃ o, Od.insert zeroM Od.newO 1 0 = (Mm.put zeroM 1 0, o, true) ∧ Od.Sorted (Mm.put zeroM 1 0) o := by
  rcases Po.ins_may (x := 1) (y := 0) (by decide) (by decide) (by decide) zero_sorted' with ⟨o, e, hs, _⟩ | ⟨_, hf⟩
  · exact ⟨o, e, hs⟩
  · rw [Mm.put_closes (by decide) (by decide) (by decide) (Od.sorted_free zero_sorted'), Sm.has_nat _ (Mm.ways_lt _ _)] at hf
    simp at hf
    have hw := ((Mm.ways_test _ _ _).1 hf).2
    rcases hw.cases_head with h1 | ⟨_, h1, _⟩
    · exact absurd h1 (zero_E _ _)
    · exact absurd h1 (zero_E _ _)
theorem edge10 : ∃ o, Od.Sorted (Mm.put zeroM 1 0) o ∧ Po.edge q2 1 0 = ({ q2 with m := Mm.put zeroM 1 0, o := o }, 0) := by
  obtain ⟨o, e, hs⟩ := ins10
  refine ⟨o, hs, ?_⟩
  unfold Po.edge
  rw [if_neg (by decide), if_neg (by unfold Po.taken; rw [q2_m.2.2.1, q2_m.2.2.2.1]; decide), q2_m.1, q2_m.2.1, e]
  rfl
theorem q3_m : ∃ o, Od.Sorted (Mm.put zeroM 1 0) o ∧ q3 = { q2 with m := Mm.put zeroM 1 0, o := o } ∧ Po.edge q2 1 0 = (q3, 0) := by
  obtain ⟨o, hs, e⟩ := edge10
  exact ⟨o, hs, by unfold q3; rw [e], by unfold q3; rw [e]⟩
theorem edge01 : ∃ q, Po.edge q3 0 1 = (q, 5) := by
  obtain ⟨o, hs, e, _⟩ := q3_m
  refine ⟨q3, ?_⟩
  have h1 : Mm.E (Mm.put zeroM 1 0) 1 0 := (Mm.put_E (by decide) (by decide) 1 0).2 (.inr ⟨rfl, rfl⟩)
  have hins : Od.insert (Mm.put zeroM 1 0) o 0 1 = (Mm.put zeroM 1 0, o, false) := by
    rcases Po.ins_may (x := 0) (y := 1) (by decide) (by decide) (by decide) hs with ⟨q, _, hs2, _⟩ | ⟨e2, _⟩
    · have a1 := hs2.2 0 1 ((Mm.put_E (by decide) (by decide) 0 1).2 (.inr ⟨rfl, rfl⟩))
      have a2 := hs2.2 1 0 ((Mm.put_E (by decide) (by decide) 1 0).2 (.inl h1))
      omega
    · exact e2
  have ed : q3.live = 3 := by rw [e]; exact q2_m.2.2.1
  have ee : q3.done = 0 := by rw [e]; exact q2_m.2.2.2.1
  unfold Po.edge
  rw [if_neg (by decide), if_neg (by unfold Po.taken; rw [ed, ee]; decide), if_neg ?_]
  rw [show q3.m = Mm.put zeroM 1 0 by rw [e], show q3.o = o by rw [e], hins]
  simp
theorem q4_m : ∃ o, Od.Sorted (Mm.put zeroM 1 0) o ∧ q4 = { q2 with m := Mm.put zeroM 1 0, o := o, live := 1, done := 2 } ∧ Po.endP q3 1 = (q4, 0) := by
  obtain ⟨o, hs, e, _⟩ := q3_m
  have ed : q3.live = 3 := by rw [e]; exact q2_m.2.2.1
  have ee : q3.done = 0 := by rw [e]; exact q2_m.2.2.2.1
  have h : Po.endP q3 1 = (Po.ended q3 1, 0) := by
    unfold Po.endP
    rw [if_pos (by rw [ed]; decide)]
  refine ⟨o, hs, ?_, by unfold q4; rw [h]⟩
  unfold q4
  rw [h]
  unfold Po.ended
  simp only [ed, ee]
  rw [show Sm.less 3 1 = 1 by decide, show Sm.add 0 1 = 2 by decide, e]
theorem next4 : Po.next q4 = some 1 := by
  obtain ⟨o, _, e, _⟩ := q4_m
  have hd : q4.done = 2 := by rw [e]
  have hins : Mm.ins q4.m 1 = 0 := by
    apply Sm.ext; intro j
    cases hb : (Mm.ins q4.m 1).testBit j
    · simp
    · have := (Mm.ins_test q4.m 1 j).1 hb
      rw [show q4.m = Mm.put zeroM 1 0 by rw [e]] at this
      rcases (Mm.put_E (by decide) (by decide) j 1).1 this with h | ⟨_, h⟩
      · exact absurd h (zero_E _ _)
      · exact absurd h (by decide)
  have hg : Po.goable q4 1 = true := by unfold Po.goable; rw [hd, hins]; rfl
  have hn : ∀ k, k ≠ 1 → Po.goable q4 k = false := by
    intro k hk
    unfold Po.goable
    rw [hd, show (2 : Nat).testBit k = false by
      rw [show (2 : Nat) = 2 ^ 1 from rfl, Nat.testBit_two_pow]; simp; omega]
    rfl
  have h2 : Po.bestTo q4 2 = some 1 := best_yes hg (by rw [best_no (hn 0 (by decide))]; rfl)
  have key : ∀ k, 2 ≤ k → Po.bestTo q4 k = some 1 := by
    intro k hk
    induction k with
    | zero => omega
    | succ k ih =>
      rcases Nat.lt_or_ge k 2 with h | h
      · obtain rfl : k = 1 := by omega
        exact h2
      · rw [best_no (hn k (by omega)), ih h]
  exact key 32 (by decide)
theorem coll4 : Po.collect q4 = (q5, [2]) ∧ q5.live = 1 ∧ q5.done = 0 ∧ q5.count = 2 := by
  obtain ⟨o, _, e, _⟩ := q4_m
  have hd : q4.done = 2 := by rw [e]
  have h1 := Po.collect_some (p := q4) (by rw [hd]; decide) next4
  have hd5 : (Po.going q4 1).done = 0 := by unfold Po.going; simp only [hd]; decide
  have hn5 : Po.next (Po.going q4 1) = none := by
    cases h : Po.next (Po.going q4 1) with
    | none => rfl
    | some s =>
      have := (Po.next_spec h).2.1
      rw [hd5] at this; simp at this
  rw [Po.collect_none hn5] at h1
  have e5 : q5 = Po.going q4 1 := by unfold q5; rw [h1]
  refine ⟨by rw [h1, e5, show q4.ids 1 = 2 by rw [e]; rfl], ?_, ?_, ?_⟩
  · rw [e5]; unfold Po.going; rw [e]
  · rw [e5]; exact hd5
  · rw [e5]; unfold Po.going; rw [e]; exact q2_m.2.2.2.2.1
/- the walk -/
theorem wpList_setP {ops : Array Oper} {rest : List Oper} {op : Oper} {a : Act} {W : World} {Q : Exit → Act → World → Prop} (hgd : op.guard = none) (t : Nat) (x y : Operand) (ho : op.op = .store t x y) (hds : op.dst = none)
    (g : Nat) (p q : Pl) (hx : a.eval x = .pointer (some ⟨g, 0, none⟩)) (hy : a.eval y = .agg (poolA q)) (h : PoolAt W g p t) (hi : (Tryd.prog.info? t).map (·.size) = some 100)
    (hK : ∀ W', PoolAt W' g q t → (∀ B a, Below B a W → B ≤ g → Below B a W') → (∀ k, k ≠ g → W'.heap[k]? = W.heap[k]?) → wpList Tryd.prog ops Q rest a W') : wpList Tryd.prog ops Q (op :: rest) a W :=
  store_pool hgd t x y ho hds g p q t hx hy h hi (hK _ (poolAt_put h) (fun _ _ hb hg => setRow_below hb hg) (fun _ hk => setRow_other _ _ _ _ hk))
theorem begin_val (p q : Pl) (s e : Int) (w : World) (hp : p.Ok) (hc : p.count < 9223372036854775807) (hT : TabAt w) (h : Po.begin p = (q, s, e)) :
    Calls Tryd.prog 20 #[.agg (poolA p)] w fun e' w' => e' = .returned (.tuple #[.agg (poolA q), .int .i64 s, .int .i64 e]) ∧ Below w.heap.size w w' := by
  have := begin_any p w hp hc hT
  rw [h] at this; exact this
theorem edge_pval (p q : Pl) (a b e : Int) (w : World) (hp : p.Ok) (ha : -9223372036854775808 ≤ a ∧ a ≤ 9223372036854775807) (hb : -9223372036854775808 ≤ b ∧ b ≤ 9223372036854775807) (hT : TabAt w) (h : Po.edge p a b = (q, e)) :
    Calls Tryd.prog 26 #[.agg (poolA p), .int .i64 a, .int .i64 b] w fun e' w' => e' = .returned (.tuple #[.agg (poolA q), .int .i64 e]) ∧ Below w.heap.size w w' := by
  have := edge_any p a b w hp ha hb hT
  rw [h] at this; exact this
theorem end_pval (p q : Pl) (s e : Int) (w : World) (hp : p.Ok) (h0 : -9223372036854775808 ≤ s) (h1 : s ≤ 9223372036854775807) (h : Po.endP p s = (q, e)) :
    Calls Tryd.prog 19 #[.agg (poolA p), .int .i64 s] w fun e' w' => e' = .returned (.tuple #[.agg (poolA q), .int .i64 e]) ∧ Below w.heap.size w w' := by
  have := end_any p s w hp h0 h1
  rw [h] at this; exact this
theorem coll_pval (p q : Pl) (l : List Int) (w : World) (hp : p.Ok) (h : Po.collect p = (q, l)) :
    Calls Tryd.prog 15 #[.agg (poolA p)] w fun e w' => ∃ v, e = .returned (.tuple #[.agg (poolA q), v]) ∧ OwnI w' (w.heap.size + 2) v l ∧ Below w.heap.size w w' := by
  have := collect_any p w hp
  unfold CollPost at this
  rw [h] at this; exact this
theorem q1_sound : Po.Sound q1 := by have := Po.begin_sound q0_sound; rw [begin0] at this; exact this
theorem q2_sound : Po.Sound q2 := by have := Po.begin_sound q1_sound; rw [begin1] at this; exact this
theorem q3_sound : Po.Sound q3 := Po.edge_sound q2_sound 1 0
theorem q4_sound : Po.Sound q4 := Po.end_sound q3_sound 1
theorem q3_count : q3.count = 2 := by obtain ⟨o, _, e, _⟩ := q3_m; rw [e]; rfl
theorem q4_count : q4.count = 2 := by obtain ⟨o, _, e, _⟩ := q4_m; rw [e]; rfl
structure AvSt (p : Pl) (w : World) (g : Nat) (W : World) : Prop where
  po : PoolAt W g p 31
  ge : w.heap.size ≤ g
  bel : Below w.heap.size w W
theorem AvSt.below {p : Pl} {w : World} {g : Nat} {W W' : World} (h : AvSt p w g W) (hb : Below W.heap.size W W') : AvSt p w g W' := ⟨h.po.below hb, h.ge, h.bel.trans (hb.mono h.bel.size)⟩
set_option maxHeartbeats 4000000 in
set_option maxRecDepth 100000 in
theorem alive_any (w : World) (hT : TabAt w) : Calls Tryd.prog 9 #[] w fun e w' => e = .returned (.bool true) ∧ Below w.heap.size w w' := by
  have hz1 := (zero_of_info zero_pool_info).1
  have HT := Lib.hid hT
  clear hT
  go_enter Tryd.func9, Tryd.ntmps9
  go_wp2_with fail
  refine (pnew_yes 2 _ (by decide)).mono ?_
  rintro e w1 ⟨rfl, hb1⟩
  have B1 := Lib.hid hb1
  clear hb1
  go_wp2_with (first
    | (refine wpList_letP rfl 31 (.tmp 1) (.tmp 17) rfl rfl w1 (Po.newP 2) rfl rfl rfl pool_info ?_; intro w2 n2 hb2; have H2 := Lib.hid (show AvSt (Po.newP 2) w w1.heap.size w2 from ⟨n2, B1.out.size, B1.out.trans (hb2.mono B1.out.size)⟩); clear n2 hb2)
    | (refine load_pool rfl 31 (.tmp 1) rfl w1.heap.size _ 31 rfl _ H2.out.po Tryd.underlying31 rfl pool_info ?_))
  refine (begin_val (Po.newP 2) q1 0 0 _ (q0_sound.ok (by decide)) (by decide) (tab_keep HT.out H2.out.bel) begin0).mono ?_
  rintro e w3 ⟨rfl, hb3⟩
  have H3 := Lib.hid (H2.out.below hb3)
  clear hb3 H2
  go_wp2_with (first
    | (refine wpList_setP rfl 31 (.tmp 1) (.tmp 22) rfl rfl w1.heap.size _ q1 rfl rfl H3.out.po pool_info ?_; intro w4 n4 b4 _; have H4 := Lib.hid (show AvSt q1 w w1.heap.size w4 from ⟨n4, H3.out.ge, b4 _ _ H3.out.bel H3.out.ge⟩); clear n4 b4)
    | (refine load_pool rfl 31 (.tmp 1) rfl w1.heap.size _ 31 rfl _ H4.out.po Tryd.underlying31 rfl pool_info ?_))
  refine (begin_val q1 q2 1 0 _ (q1_sound.ok (by decide)) (by decide) (tab_keep HT.out H4.out.bel) begin1).mono ?_
  rintro e w5 ⟨rfl, hb5⟩
  have H5 := Lib.hid (H4.out.below hb5)
  clear hb5 H4 H3
  go_wp2_with (first
    | (refine wpList_setP rfl 31 (.tmp 1) (.tmp 28) rfl rfl w1.heap.size _ q2 rfl rfl H5.out.po pool_info ?_; intro w6 n6 b6 _; have H6 := Lib.hid (show AvSt q2 w w1.heap.size w6 from ⟨n6, H5.out.ge, b6 _ _ H5.out.bel H5.out.ge⟩); clear n6 b6)
    | (refine load_pool rfl 31 (.tmp 1) rfl w1.heap.size _ 31 rfl _ H6.out.po Tryd.underlying31 rfl pool_info ?_))
  refine (begin_val q2 q2 0 4 _ (q2_sound.ok (by decide)) (by decide) (tab_keep HT.out H6.out.bel) begin2).mono ?_
  rintro e w7 ⟨rfl, hb7⟩
  have H7 := Lib.hid (H6.out.below hb7)
  clear hb7 H6 H5
  go_wp2_with (first
    | (refine wpList_letP rfl 31 (.tmp 7) (.tmp 34) rfl rfl w7 q2 rfl rfl rfl pool_info ?_; intro w8 _ hb8; have H8 := Lib.hid (H7.out.below hb8); clear hb8)
    | (refine load_pool rfl 31 (.tmp 1) rfl w1.heap.size _ 31 rfl _ H8.out.po Tryd.underlying31 rfl pool_info ?_))
  obtain ⟨o3, hs3, e3, he3⟩ := q3_m
  clear hs3 e3
  refine (edge_pval q2 q3 1 0 0 _ (q2_sound.ok (by decide)) (by decide) (by decide) (tab_keep HT.out H8.out.bel) he3).mono ?_
  clear he3
  rintro e w9 ⟨rfl, hb9⟩
  have H9 := Lib.hid (H8.out.below hb9)
  clear hb9 H8 H7
  go_wp2_with (first
    | (refine wpList_setP rfl 31 (.tmp 1) (.tmp 40) rfl rfl w1.heap.size _ q3 rfl rfl H9.out.po pool_info ?_; intro w10 n10 b10 _; have H10 := Lib.hid (show AvSt q3 w w1.heap.size w10 from ⟨n10, H9.out.ge, b10 _ _ H9.out.bel H9.out.ge⟩); clear n10 b10)
    | (refine load_pool rfl 31 (.tmp 1) rfl w1.heap.size _ 31 rfl _ H10.out.po Tryd.underlying31 rfl pool_info ?_))
  obtain ⟨qx, hqx⟩ := edge01
  refine (edge_pval q3 qx 0 1 5 _ (q3_sound.ok (by rw [q3_count]; decide)) (by decide) (by decide) (tab_keep HT.out H10.out.bel) hqx).mono ?_
  clear hqx
  rintro e w11 ⟨rfl, hb11⟩
  have H11 := Lib.hid (H10.out.below hb11)
  clear hb11 H10 H9
  go_wp2_with (first
    | (refine wpList_letP rfl 31 (.tmp 11) (.tmp 45) rfl rfl w11 qx rfl rfl rfl pool_info ?_; intro w12 _ hb12; have H12 := Lib.hid (H11.out.below hb12); clear hb12)
    | (refine load_pool rfl 31 (.tmp 1) rfl w1.heap.size _ 31 rfl _ H12.out.po Tryd.underlying31 rfl pool_info ?_))
  obtain ⟨o4, hs4, e4, he4⟩ := q4_m
  clear hs4 e4
  refine (end_pval q3 q4 1 0 _ (q3_sound.ok (by rw [q3_count]; decide)) (by decide) (by decide) he4).mono ?_
  clear he4
  rintro e w13 ⟨rfl, hb13⟩
  have H13 := Lib.hid (H12.out.below hb13)
  clear hb13 H12 H11
  go_wp2_with (first
    | (refine wpList_setP rfl 31 (.tmp 1) (.tmp 50) rfl rfl w1.heap.size _ q4 rfl rfl H13.out.po pool_info ?_; intro w14 n14 b14 _; have H14 := Lib.hid (show AvSt q4 w w1.heap.size w14 from ⟨n14, H13.out.ge, b14 _ _ H13.out.bel H13.out.ge⟩); clear n14 b14)
    | (refine load_pool rfl 31 (.tmp 1) rfl w1.heap.size _ 31 rfl _ H14.out.po Tryd.underlying31 rfl pool_info ?_))
  refine (coll_pval q4 q5 [2] _ (q4_sound.ok (by rw [q4_count]; decide)) coll4.1).mono ?_
  rintro e w15 ⟨v, rfl, hown, hb15⟩
  have hg14 : w1.heap.size < w14.heap.size := H14.out.po.lt
  have H15 := Lib.hid (H14.out.below hb15)
  have HO := Lib.hid hown
  obtain ⟨A, c, rfl, hc1, hc2⟩ := hown.shape
  obtain ⟨g, rfl, hcell⟩ := hown.at_ (k := 0) (by decide)
  clear hb15 H14 H13 hown
  have hcell : w15.cell? ⟨g, 0, none⟩ = some (.int .i64 2) := hcell
  have hlen : [(2 : Int)].length = 1 := rfl
  rw [hlen]
  go_wp2_with (refine wpList_setP rfl 31 (.tmp 1) (.tmp 55) rfl rfl w1.heap.size _ q5 rfl rfl H15.out.po pool_info ?_; intro w16 n16 b16 k16; have H16 := Lib.hid (show AvSt q5 w w1.heap.size w16 from ⟨n16, H15.out.ge, b16 _ _ H15.out.bel H15.out.ge⟩); have hcl : w16.cell? ⟨g, 0, none⟩ = some (.int .i64 2) := (World.cell?_of_block (k16 g (by have := (World.ownsRow.lt HO.out g rfl).1; omega))).trans hcell; have d1 := n16.live_; have d2 := n16.done_; have d3 := n16.count_; rw [coll4.2.1] at d1; rw [coll4.2.2.1] at d2; rw [coll4.2.2.2] at d3; clear n16 b16 k16)
  go_ret
  exact ⟨rfl, H16.out.bel⟩
end Go.Proofs.YtakoceablbgchaaDoor
namespace Go.Proofs.YtakoceablbgchaaDoor
open Go.RowKit
def i64p (z : Int) : Prop := -9223372036854775808 ≤ z ∧ z ≤ 9223372036854775807
/-- a slice reads as these acts. -/
def ActsAt (w : World) (A : Option Addr) (n c : Nat) (l : Nat → Po.Act) : Prop :=
  n ≤ c ∧ c ≤ maxLen ∧ (0 < n → ∃ ad, A = some ad ∧ ∀ i, i < n → w.cell? (ad.add (i * 3)) = some (.int .u8 ((l i).kind : Nat)) ∧ w.cell? (ad.add (i * 3 + 1)) = some (.int .i64 (l i).a) ∧ w.cell? (ad.add (i * 3 + 2)) = some (.int .i64 (l i).b) ∧ (l i).kind < 256 ∧ i64p (l i).a ∧ i64p (l i).b)
theorem act_second {W : World} {ad : Addr} {k : Nat} {v : Value} (h : W.cell? (ad.add (k * 3 + 1)) = some v) : W.cell? ⟨(ad.add (k * 3)).block, (ad.add (k * 3)).off + 1, none⟩ = some v := by
  rw [← Addr.add_add, Addr.add_succ' _ 0] at h
  exact h
theorem act_third {W : World} {ad : Addr} {k : Nat} {v : Value} (h : W.cell? (ad.add (k * 3 + 2)) = some v) : W.cell? ⟨(ad.add (k * 3)).block, (ad.add (k * 3)).off + 2, none⟩ = some v := by
  rw [← Addr.add_add, Addr.add_succ' _ 1] at h
  exact h
theorem cell_keep {W W' : World} {B : Nat} {p : Addr} {v : Value} (h : W.cell? p = some v) (hb : Below B W W') (hB : W.heap.size ≤ B) : W'.cell? p = some v := (hb.cell (Nat.lt_of_lt_of_le (cell_lt h) hB)).trans h
/-- the pool behind the first k acts lies in its variable. -/
structure RunSt (n : Int) (l : Nat → Po.Act) (g k : Nat) (w W : World) : Prop where
  po : PoolAt W g (Po.run n l k) 31
  ge : w.heap.size ≤ g
  bel : Below w.heap.size w W
theorem RunSt.below {n : Int} {l : Nat → Po.Act} {g k : Nat} {w W W' : World} (h : RunSt n l g k w W) (hb : Below W.heap.size W W') : RunSt n l g k w W' := ⟨h.po.below hb, h.ge, h.bel.trans (hb.mono h.bel.size)⟩
def ActRel (n : Int) (l : Nat → Po.Act) (N g : Nat) (w : World) (i : Value) (wr : World) : Prop := ∃ k : Nat, k ≤ N ∧ i = .int .i64 k ∧ RunSt n l g k w wr
theorem zero_okP : zeroP.Ok := ⟨by decide, zero_ok, fun _ _ => by simp [zeroP, zeroO], by decide, by decide, fun _ _ => by simp [zeroP, zeroO], by decide⟩
theorem run_ok {n : Int} (hn : 1 ≤ n ∧ n ≤ 32) (l : Nat → Po.Act) {k : Nat} (hk : k ≤ 120) : (Po.run n l k).Ok := (Po.run_sound hn l k).ok (by have := (Po.run_count hn l k).1; omega)
theorem run_ask {n : Int} (hn : 1 ≤ n ∧ n ≤ 32) (l : Nat → Po.Act) {k : Nat} (hk : k ≤ 120) {x : Po.Act} (hx : x.kind < 256) (ha : i64p x.a) (hb : i64p x.b) {W : World} (hT : TabAt W) : DAsk (Po.run n l k) zeroP x W :=
  ⟨run_ok hn l hk, zero_okP, by have := (Po.run_count hn l k).1; omega, by decide, by decide, by decide, ha, hb, hx, .inr rfl, hT⟩
theorem run_next {n : Int} {l : Nat → Po.Act} {k : Nat} {x : Po.Act} (h : l k = x) : Po.act (Po.run n l k) x = Po.run n l (k + 1) := by rw [← h]; rfl
theorem u8_mod (s : Nat) (hs : s < 256) : ∃ r : Nat, ((s : Nat) : Int).tmod 32 = (r : Int) ∧ r < 32 := ⟨s % 32, by rw [Int.tmod_eq_emod_of_nonneg (by omega)]; omega, Nat.mod_lt _ (by decide)⟩
theorem build_zeroM (w : World) : (Instr.build 27 #[]).run Tryd.prog w = .ok (.agg (matA zeroM)) w := by
  have hz : (Tryd.prog.info? 27).map (fun i => (i.zero, i.size)) = some (some (.agg (matA zeroM)), 32) := by kernel_rfl
  have h0 := (zero_of_info hz).1
  unfold Instr.build
  have hc : (Value.agg (matA zeroM)).cells = matA zeroM := rfl
  simp [Sem.run_bind, h0, run_underlying Tryd.underlying27, Instr.fill, hc]
theorem guard_mat : Tryd.prog.eqGuardType Tryd.prog.depth 27 = false := by kernel_rfl
end Go.Proofs.YtakoceablbgchaaDoor
