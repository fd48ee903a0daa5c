/-
  Two pools compared; a pool as the document holds it; two rows compared.
-/
import Derived.Test.YtakoceablbgchaaDoorPoolRef4
namespace Go.Proofs.YtakoceablbgchaaDoor
open Go.RowKit
attribute [local go_sem ↓] Go.wp_at_zero Go.wp_at_succ
theorem part_row (w : World) {t n : Nat} {d : TypeDesc} (hu : Tryd.prog.underlying t = some d) (hd : d.isRow = true) (hi : (Tryd.prog.info? t).map (·.size) = some n) (cs ds : Array Value) (off : Nat) (h : cs.extract off (off + n) = ds) :
    (part t cs off).run Tryd.prog w = .ok (.agg ds) w := by
  have hagg : (isAgg t).run Tryd.prog w = .ok true w := by
    unfold isAgg
    rw [Sem.run_bind, run_underlying hu w]
    cases d <;> simp_all
  unfold part
  simp [Sem.run_bind, hagg, sz w hi, h]
theorem extract_eq {p : Pl} {off n : Nat} {ds : Array Value} (hs : ds.size = n) (hn : off + n ≤ 100) (h : ∀ j, j < n → ds[j]? = some (cellOf p (off + j))) : (poolA p).extract off (off + n) = ds := by
  apply Array.ext_getElem?
  intro i
  rw [Array.getElem?_extract, poolA_size]
  by_cases hi : i < n
  · rw [if_pos (by omega), poolA_get p _ (by omega), h i hi]
  · rw [if_neg (by omega), Array.getElem?_eq_none (by omega)]
theorem extract_m (p : Pl) : (poolA p).extract 1 (1 + 32) = matA p.m := extract_eq (matA_size _) (by omega) fun j hj => by rw [matA_get _ j hj, cell_m p j hj]
theorem extract_o (p : Pl) : (poolA p).extract 33 (33 + 32) = ordA p.o := extract_eq (ordA_size _) (by omega) fun j hj => by rw [ordA_get _ j hj, cell_o p j hj]
theorem extract_ids (p : Pl) : (poolA p).extract 67 (67 + 32) = ordA p.ids := extract_eq (ordA_size _) (by omega) fun j hj => by rw [ordA_get _ j hj, cell_ids p j hj]
theorem eqd_mat {t e : TypeId} (ht : Tryd.prog.underlying t = some (.array 32 e)) (he : Tryd.prog.plainKey e = true) (hu : Tryd.prog.underlying e = some (.int .u64)) (hc : Tryd.prog.cellsOf e = 1) (hi : (Tryd.prog.info? e).isSome = true) (m : Mm.Gr) (w : World) :
    (Op.equalIn 9999 t (.agg (matA m)) (.agg (matA m))).run Tryd.prog w = .ok true w := by
  obtain ⟨i, hi⟩ := Option.isSome_iff_exists.1 hi
  rw [run_equalIn_array w 9998 (matA m) (matA m) ht hi, hc, eqItems_mat w 9997 he hu m m _ (by simp)]
  simp
theorem eqd_ord {t : TypeId} (ht : Tryd.prog.underlying t = some (.array 32 3)) (o : Od.O) (w : World) :
    (Op.equalIn 9999 t (.agg (ordA o)) (.agg (ordA o))).run Tryd.prog w = .ok true w := by
  obtain ⟨i, hi⟩ := Option.isSome_iff_exists.1 info_int
  rw [run_equalIn_array w 9998 (ordA o) (ordA o) ht hi, cells_int, eqItems_ord w 9997 o o _ (by simp)]
  simp
theorem eqd_int {t : TypeId} {k : IntKind} (ht : Tryd.prog.underlying t = some (.int k)) (z : Int) (w : World) : (Op.equalIn 9999 t (.int k z) (.int k z)).run Tryd.prog w = .ok true w := by
  rw [run_equalIn_int w 9998 t k k z z ht]; simp
theorem eq_pool (p : Pl) (w : World) : (Op.equalIn 10000 31 (.agg (poolA p)) (.agg (poolA p))).run Tryd.prog w = .ok true w := by
  have hf : Tryd.prog.underlying 31 = some (.struct (Tryd.prog.fieldsOf 31)) := by unfold Program.fieldsOf; rw [Tryd.underlying31]
  rw [run_equalIn_struct w 9999 31 _ _ hf (by kernel_rfl)]
  simp only [Program.fieldsOf, Tryd.underlying31]
  have h0 := fun w => run_part_plain w plain_int (poolA_get p 0 (by decide))
  have h1 := fun w => part_row w Tryd.underlying27 rfl mat_info _ _ 1 (extract_m p)
  have h2 := fun w => part_row w Tryd.underlying29 rfl ord_info _ _ 33 (extract_o p)
  have h3 := fun w => run_part_plain w plain_set (poolA_get p 65 (by decide))
  have h4 := fun w => run_part_plain w plain_set (poolA_get p 66 (by decide))
  have h5 := fun w => part_row w Tryd.underlying28 rfl ints_info _ _ 67 (extract_ids p)
  have h6 := fun w => run_part_plain w plain_int (poolA_get p 99 (by decide))
  simp only [cell_size, cell_live, cell_done, cell_count] at h0 h3 h4 h6
  simp [Op.eqFields, h0, h1, h2, h3, h4, h5, h6, eqd_mat Tryd.underlying27 plain_set Tryd.underlying25 cells_set info_set, eqd_ord Tryd.underlying29, eqd_ord Tryd.underlying28, eqd_int Tryd.underlying3, eqd_int Tryd.underlying25]
theorem eq_rpool (p : Pl) (w : World) : (Op.equalIn 10000 38 (.agg (poolA p)) (.agg (poolA p))).run Tryd.prog w = .ok true w := by
  have hf : Tryd.prog.underlying 38 = some (.struct (Tryd.prog.fieldsOf 38)) := by unfold Program.fieldsOf; rw [Tryd.underlying38]
  rw [run_equalIn_struct w 9999 38 _ _ hf (by kernel_rfl)]
  simp only [Program.fieldsOf, Tryd.underlying38]
  have h0 := fun w => run_part_plain w plain_int (poolA_get p 0 (by decide))
  have h1 := fun w => part_row w Tryd.underlying35 rfl rmat_info _ _ 1 (extract_m p)
  have h2 := fun w => part_row w Tryd.underlying36 rfl rord_info _ _ 33 (extract_o p)
  have h3 := fun w => run_part_plain w plain_u64 (poolA_get p 65 (by decide))
  have h4 := fun w => run_part_plain w plain_u64 (poolA_get p 66 (by decide))
  have h5 := fun w => part_row w Tryd.underlying28 rfl ints_info _ _ 67 (extract_ids p)
  have h6 := fun w => run_part_plain w plain_int (poolA_get p 99 (by decide))
  simp only [cell_size, cell_live, cell_done, cell_count] at h0 h3 h4 h6
  simp [Op.eqFields, h0, h1, h2, h3, h4, h5, h6, eqd_mat Tryd.underlying35 plain_u64 Tryd.underlying24 cells_u64 info_u64, eqd_ord Tryd.underlying36, eqd_ord Tryd.underlying28, eqd_int Tryd.underlying3, eqd_int Tryd.underlying24]
/-- '==' and '!=' of what is the same. -/
theorem run_same_eq (t : TypeId) (cs : Array Value) (x y : Operand) (w : World) (hg : Tryd.prog.eqGuardType Tryd.prog.depth t = false) (h : (Op.equalIn 10000 t (.agg cs) (.agg cs)).run Tryd.prog w = .ok true w) :
    (do eqGuard .eql t x y (.agg cs) (.agg cs); binOp .eql t (.agg cs) (.agg cs) : Sem Value).run Tryd.prog w = .ok (.bool true) w := by
  rw [Sem.run_bind, run_eqGuard_agg w .eql t x y cs cs hg, Result.andThen_ok, run_eql_struct, h, Result.andThen_ok]
theorem run_same_ne (t : TypeId) (cs : Array Value) (x y : Operand) (w : World) (hg : Tryd.prog.eqGuardType Tryd.prog.depth t = false) (h : (Op.equalIn 10000 t (.agg cs) (.agg cs)).run Tryd.prog w = .ok true w) :
    (do eqGuard .neq t x y (.agg cs) (.agg cs); binOp .neq t (.agg cs) (.agg cs) : Sem Value).run Tryd.prog w = .ok (.bool false) w := by
  rw [Sem.run_bind, run_eqGuard_agg w .neq t x y cs cs hg, Result.andThen_ok, run_neq_struct, h, Result.andThen_ok]; rfl
theorem guard_pool : Tryd.prog.eqGuardType Tryd.prog.depth 31 = false := by kernel_rfl
theorem guard_rpool : Tryd.prog.eqGuardType Tryd.prog.depth 38 = false := by kernel_rfl
theorem yields_eq {ops : Array Oper} {S : World → Prop} {op : Oper} {a : Act} (hw : Region.wanted op (yielded ops a.tmps) = true) (t r : TypeId) (x y : Operand) (ho : op.op = .binOp .eql t x y r)
    (cs : Array Value) (hx : a.eval x = .agg cs) (hy : a.eval y = .agg cs) (hg : Tryd.prog.eqGuardType Tryd.prog.depth t = false) (h : ∀ w, (Op.equalIn 10000 t (.agg cs) (.agg cs)).run Tryd.prog w = .ok true w) : YieldsIf Tryd.prog ops S op (.bool true) a :=
  .inl ⟨hw, fun w _ => by unfold execOp; simp only [ho, hx, hy]; rw [Sem.run_bind, run_same_eq t cs x y w hg (h w)]; rfl⟩
theorem yields_ne {ops : Array Oper} {S : World → Prop} {op : Oper} {a : Act} (hw : Region.wanted op (yielded ops a.tmps) = true) (t r : TypeId) (x y : Operand) (ho : op.op = .binOp .neq t x y r)
    (cs : Array Value) (hx : a.eval x = .agg cs) (hy : a.eval y = .agg cs) (hg : Tryd.prog.eqGuardType Tryd.prog.depth t = false) (h : ∀ w, (Op.equalIn 10000 t (.agg cs) (.agg cs)).run Tryd.prog w = .ok true w) : YieldsIf Tryd.prog ops S op (.bool false) a :=
  .inl ⟨hw, fun w _ => by unfold execOp; simp only [ho, hx, hy]; rw [Sem.run_bind, run_same_ne t cs x y w hg (h w)]; rfl⟩
theorem wpList_eq {ops : Array Oper} {rest : List Oper} {op : Oper} {a : Act} {w : World} {Q : Exit → Act → World → Prop} (hw : Region.wanted op (yielded ops a.tmps) = true) (t r : TypeId) (x y : Operand) (ho : op.op = .binOp .eql t x y r)
    (cs : Array Value) (hx : a.eval x = .agg cs) (hy : a.eval y = .agg cs) (hg : Tryd.prog.eqGuardType Tryd.prog.depth t = false) (h : (Op.equalIn 10000 t (.agg cs) (.agg cs)).run Tryd.prog w = .ok true w)
    (hK : wpList Tryd.prog ops Q rest (a.put op.dst (.bool true)) w) : wpList Tryd.prog ops Q (op :: rest) a w :=
  wpList_step fun _ hK' => by
    rw [if_pos hw]
    unfold Oper.wp execOp
    simp only [ho, hx, hy]
    rw [Sem.run_bind, run_same_eq t cs x y w hg h]
    exact hK' _ _ hK
theorem yields_build {ops : Array Oper} {S : World → Prop} {op : Oper} {a : Act} (hw : Region.wanted op (yielded ops a.tmps) = true) (t : TypeId) (parts : Array (Nat × Operand)) (ho : op.op = .build t parts)
    (parts' : Array (Nat × Value)) (hp : (parts.map fun (i, x) => (i, a.eval x)) = parts') (v : Value) (hv : ∀ w, (Instr.build t parts').run Tryd.prog w = .ok v w) : YieldsIf Tryd.prog ops S op v a :=
  .inl ⟨hw, fun w _ => by unfold execOp; simp only [ho, hp, Sem.run_bind, hv w, Result.andThen_ok]; rfl⟩
theorem idsInfo (o : Od.O) : (Tryd.prog.info? 28).map (·.size) = some (ordA o).size := by rw [ordA_size]; exact ints_info
structure OuSt (p : Pl) (w : World) (W : World) : Prop where
  po : PoolAt W w.heap.size p 31
  re : ∃ q, PoolAt W (w.heap.size + 1) q 38
  bel : Below w.heap.size w W
theorem OuSt.below {p : Pl} {w W W' : World} (h : OuSt p w W) (hb : Below W.heap.size W W') : OuSt p w W' := ⟨h.po.below hb, by obtain ⟨q, hq⟩ := h.re; exact ⟨q, hq.below hb⟩, h.bel.trans (hb.mono h.bel.size)⟩
theorem OuSt.put {p : Pl} {w W : World} (h : OuSt p w W) (q : Pl) : OuSt p w (W.setRow (w.heap.size + 1) (poolA q)) :=
  ⟨h.po.setRow _ (by omega), by obtain ⟨r, hr⟩ := h.re; exact ⟨q, poolAt_put hr⟩, setRow_below h.bel (by omega)⟩
theorem oust_first (p : Pl) (w : World) : OuSt p w ((w.alloc (.cells (poolA p) 31)).alloc (.cells (poolA zeroP) 38)) :=
  ⟨(poolAt_new w p 31).alloc _, ⟨zeroP, by have := poolAt_new (w.alloc (.cells (poolA p) 31)) zeroP 38; simpa using this⟩, ((Below.refl _ _).alloc (Nat.le_refl _) _).alloc (by simp) _⟩
theorem results_pool1 {fn : Func} {c : Tmp} {ty : TypeId} (h : fn.results = #[.cell c ty]) (tmps : Array Value) (w : World) (g : Nat) (t : TypeId) (p : Pl) (d : TypeDesc)
    (hp : tmps.getD c undef = .pointer (some ⟨g, 0, none⟩)) (hg : PoolAt w g p t) (hu : Tryd.prog.underlying ty = some d) (hd : d.isRow = true) (hi : (Tryd.prog.info? ty).map (·.size) = some 100) :
    (results fn tmps).run Tryd.prog w = .ok (.agg (poolA p)) w := by
  have hp' : tmps[c]?.getD undef = .pointer (some ⟨g, 0, none⟩) := by simpa using hp
  simp only [results, h]
  simp [hp', asAddr, load_whole w g p t ty d hg hu hd hi]
set_option maxHeartbeats 1000000 in
set_option maxRecDepth 100000 in
theorem pours_any (p : Pl) (w : World) : Calls Tryd.prog 12 #[.agg (poolA p)] w fun e w' => e = .returned (.agg (poolA p)) ∧ Below w.heap.size w w' := by
  have hz := (zero_of_info zero_rpool_info).1
  have H0 := Lib.hid (oust_first p w)
  go_enter Tryd.func12, Tryd.ntmps12
  go_wp2
  refine wp_region_noPanic ?_
  refine region_start (S := OuSt p w) 17 rfl (by kernel_rfl) (H0.out.below (below_drew _)) (fun hHeld => ?_)
  refine take_at 0 3 (.pointer (some ⟨w.heap.size, 0, none⟩)) rfl rfl (by kernel_rfl) (by kernel_rfl) (by kernel_rfl) (fun _ _ _ h => h) (Or.inl ⟨by rfl, by intro W hW; clear hW; go_simp; try (intro h; omega)⟩) hHeld ?_
  simp only [put_laws]
  refine take_at 1 4 (.int .i64 p.size) rfl rfl (by kernel_rfl) (by kernel_rfl) (by kernel_rfl) (fun _ _ _ h => h) (Or.inl ⟨by rfl, by intro W hW; have hc := hW.po.size_; clear hW; go_simp⟩) hHeld ?_
  simp only [put_laws]
  refine take_at 2 5 (.pointer (some ⟨w.heap.size, 1, none⟩)) rfl rfl (by kernel_rfl) (by kernel_rfl) (by kernel_rfl) (fun _ _ _ h => h) (Or.inl ⟨by rfl, by intro W hW; clear hW; go_simp; try (intro h; omega)⟩) hHeld ?_
  simp only [put_laws]
  refine take_at 3 6 (.agg (matA p.m)) rfl rfl (by kernel_rfl) (by kernel_rfl) (by kernel_rfl) (fun _ _ _ h => h) (yields_mid (by rfl) 27 (.tmp 5) rfl (w.heap.size) 1 rfl (matA p.m) _ (fun W h => h.po.range_m) Tryd.underlying27 rfl (matInfo _)) hHeld ?_
  simp only [put_laws]
  refine take_at 5 8 (.pointer (some ⟨w.heap.size, 33, none⟩)) rfl rfl (by kernel_rfl) (by kernel_rfl) (by kernel_rfl) (fun _ _ _ h => h) (Or.inl ⟨by rfl, by intro W hW; clear hW; go_simp; try (intro h; omega)⟩) hHeld ?_
  simp only [put_laws]
  refine take_at 6 9 (.agg (ordA p.o)) rfl rfl (by kernel_rfl) (by kernel_rfl) (by kernel_rfl) (fun _ _ _ h => h) (yields_mid (by rfl) 29 (.tmp 8) rfl (w.heap.size) 33 rfl (ordA p.o) _ (fun W h => h.po.range_o) Tryd.underlying29 rfl (ordInfo _)) hHeld ?_
  simp only [put_laws]
  refine take_at 7 10 (.pointer (some ⟨w.heap.size, 65, none⟩)) rfl rfl (by kernel_rfl) (by kernel_rfl) (by kernel_rfl) (fun _ _ _ h => h) (Or.inl ⟨by rfl, by intro W hW; clear hW; go_simp; try (intro h; omega)⟩) hHeld ?_
  simp only [put_laws]
  refine take_at 8 11 (.int .u64 (p.live : Nat)) rfl rfl (by kernel_rfl) (by kernel_rfl) (by kernel_rfl) (fun _ _ _ h => h) (Or.inl ⟨by rfl, by intro W hW; have hc := hW.po.live_; clear hW; go_simp⟩) hHeld ?_
  simp only [put_laws]
  refine take_at 9 12 (.pointer (some ⟨w.heap.size, 66, none⟩)) rfl rfl (by kernel_rfl) (by kernel_rfl) (by kernel_rfl) (fun _ _ _ h => h) (Or.inl ⟨by rfl, by intro W hW; clear hW; go_simp; try (intro h; omega)⟩) hHeld ?_
  simp only [put_laws]
  refine take_at 10 13 (.int .u64 (p.done : Nat)) rfl rfl (by kernel_rfl) (by kernel_rfl) (by kernel_rfl) (fun _ _ _ h => h) (Or.inl ⟨by rfl, by intro W hW; have hc := hW.po.done_; clear hW; go_simp⟩) hHeld ?_
  simp only [put_laws]
  refine take_at 11 14 (.pointer (some ⟨w.heap.size, 67, none⟩)) rfl rfl (by kernel_rfl) (by kernel_rfl) (by kernel_rfl) (fun _ _ _ h => h) (Or.inl ⟨by rfl, by intro W hW; clear hW; go_simp; try (intro h; omega)⟩) hHeld ?_
  simp only [put_laws]
  refine take_at 12 15 (.agg (ordA p.ids)) rfl rfl (by kernel_rfl) (by kernel_rfl) (by kernel_rfl) (fun _ _ _ h => h) (yields_mid (by rfl) 28 (.tmp 14) rfl (w.heap.size) 67 rfl (ordA p.ids) _ (fun W h => h.po.range_ids) Tryd.underlying28 rfl (idsInfo _)) hHeld ?_
  simp only [put_laws]
  refine take_at 13 16 (.pointer (some ⟨w.heap.size, 99, none⟩)) rfl rfl (by kernel_rfl) (by kernel_rfl) (by kernel_rfl) (fun _ _ _ h => h) (Or.inl ⟨by rfl, by intro W hW; clear hW; go_simp; try (intro h; omega)⟩) hHeld ?_
  simp only [put_laws]
  refine take_at 14 17 (.int .i64 p.count) rfl rfl (by kernel_rfl) (by kernel_rfl) (by kernel_rfl) (fun _ _ _ h => h) (Or.inl ⟨by rfl, by intro W hW; have hc := hW.po.count_; clear hW; go_simp⟩) hHeld ?_
  simp only [put_laws]
  refine wpAnyH_ready (rs := [4]) (by kernel_rfl) (by simp) ?_
  refine AllReadyH.cons rfl (fun K hK => ?_) AllReadyH.nil
  go_simp
  refine (ours_any p.m _).mono ?_
  rintro e w5 ⟨rfl, hb5⟩
  try go_simp
  have hHeld := hHeld.below hb5
  refine hK.out _ _ hHeld (fun hHeld => ?_)
  clear hK K
  refine take_at 15 18 (.agg (poolA p)) rfl rfl (by kernel_rfl) (by kernel_rfl) (by kernel_rfl) (fun _ _ _ h => h) (yields_build (by rfl) 38 #[(0, .tmp 4), (1, .tmp 7), (2, .tmp 9), (3, .tmp 11), (4, .tmp 13), (5, .tmp 15), (6, .tmp 17)] rfl #[(0, .int .i64 p.size), (1, .agg (matA p.m)), (2, .agg (ordA p.o)), (3, .int .u64 (p.live : Nat)), (4, .int .u64 (p.done : Nat)), (5, .agg (ordA p.ids)), (6, .int .i64 p.count)] (by simp [Act.eval]) _ (rbuild_all p)) hHeld ?_
  simp only [put_laws]
  refine wpAnyH_ready (rs := [16]) (by kernel_rfl) (by simp) ?_
  refine AllReadyH.cons rfl (fun K hK => ?_) AllReadyH.nil
  obtain ⟨old, hold⟩ := hHeld.re
  refine step_store_pool (by rfl) 38 (.tmp 2) (.tmp 18) (by rfl) (w.heap.size + 1) old p 38 (by rfl) (by rfl) hold rpool_info ?_
  have hR := poolAt_put (q := p) hold
  have hHeld := hHeld.put p
  refine hK.out _ _ hHeld (fun hHeld => ?_)
  clear hK K hold
  refine wpAnyH_done (by kernel_rfl) ?_ _
  refine NoPanic.normal ?_
  go_wp2
  refine bodyPost_ret (results_pool1 rfl _ _ (w.heap.size + 1) 38 p _ rfl hR Tryd.underlying38 rfl rpool_info) rfl ⟨rfl, hHeld.bel⟩
/- rows -/
set_option maxHeartbeats 1000000 in
set_option maxRecDepth 100000 in
theorem same_any (A B : Option Addr) (n c d : Nat) (zs : List Int) (w : World) (hn : n ≤ 9223372036854775807) (ha : IntsAt w A n zs) (hb : IntsAt w B n zs) :
    Calls Tryd.prog 35 #[.slice A n c, .slice B n d] w fun e w' => e = .returned (.bool true) ∧ Below w.heap.size w w' := by
  have HA := Lib.hid ha
  have HB := Lib.hid hb
  clear ha hb
  go_enter Tryd.func35, Tryd.ntmps35
  go_wp2
  go_loopw [5] (fun i wr => ∃ k q : Nat, k ≤ n ∧ i = .int .i64 k ∧ wr = w.drewN q) (fun i _ => n - (intOf i).toNat)
  case atStart => exact ⟨0, 0, Nat.zero_le _, rfl, rfl⟩
  case round =>
    obtain ⟨k, q, hk, rfl, rfl⟩ := hrel
    by_cases hlt : k < n
    · obtain ⟨ad, z, rfl, hz, hc, h0, h1⟩ := HA.out.at_ hlt
      obtain ⟨ad', z', rfl, hz', hc', _⟩ := HB.out.at_ hlt
      have e : z' = z := by rw [hz] at hz'; injection hz' with e; exact e.symm
      subst e
      clear hz hz'
      have hlt' : (k : Int) < (n : Int) := by omega
      go_wp2
      go_quiet (fail)
      go_wp2
      exact ⟨⟨k + 1, q + nq, by omega, by go_num, rfl⟩, by simp [intOf]; omega⟩
    · go_wp2
      go_ret
      exact ⟨rfl, below_drewN (Below.refl _ _) _⟩
theorem OwnI.ints {w : World} {base : Nat} {A : Option Addr} {n c : Nat} {l : List Int} (h : OwnI w base (.slice A n c) l) (hl : ∀ z ∈ l, i64s z) : IntsAt w A l.length l := by
  refine ⟨rfl, fun hn => ?_, hl⟩
  obtain ⟨g, rfl, _⟩ := h.at_ hn
  refine ⟨_, rfl, fun j z hz => ?_⟩
  obtain ⟨hj, rfl⟩ := List.getElem?_eq_some_iff.1 hz
  obtain ⟨g', hA, hc⟩ := h.at_ hj
  injection hA with hA
  injection hA with hA
  subst hA
  rw [addr_at]; exact hc
theorem sameI {l : List Int} {W : World} {b1 b2 : Nat} {v1 v2 : Value} (hl : ∀ z ∈ l, i64s z) (h1 : OwnI W b1 v1 l) (h2 : OwnI W b2 v2 l) :
    Calls Tryd.prog 35 #[v1, v2] W fun e w' => e = .returned (.bool true) ∧ Below W.heap.size W w' := by
  obtain ⟨A, c, rfl, _, _⟩ := h1.shape
  obtain ⟨B, d, rfl, _, _⟩ := h2.shape
  exact same_any A B _ c d _ W (by omega) (h1.ints hl) (h2.ints hl)
end Go.Proofs.YtakoceablbgchaaDoor
