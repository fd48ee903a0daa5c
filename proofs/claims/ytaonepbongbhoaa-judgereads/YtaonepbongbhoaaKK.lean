/-
  Contracts of Begin and of the library's Repeat.
  Contracts of Begin, and of the document's.
-/
import Derived.Test.YtaonepbongbhoaaKC
import Derived.Shelf.Bits.Mul64
import Derived.Laws.CopyOwn
import Derived.Laws.CopyRow
import Derived.Test.YtaonepbongbhoaaKB
import Derived.Deep.RegionLaw
namespace Go.Proofs.Ytaonepbongbhoaa.Rp
open Go.RowKit Tx Az
set_option maxHeartbeats 1000000 in
set_option maxRecDepth 100000 in
theorem mul64_one (k : Nat) (hk : k ≤ 64) (w : World) :
    Calls Try.prog 85 #[.int .u64 1, .int .u64 (k : Nat)] w fun e w' => e = .returned (.tuple #[.int .u64 0, .int .u64 (k : Nat)]) ∧ w = w' := by
  have hm := Mul64.maskN k (by omega)
  have h1 : bits .and .u64 (1 : Int) 4294967295 = 1 := by decide
  have h2 : bits .and .u64 (0 : Int) 4294967295 = 0 := by decide
  have e1 : k % 4294967296 = k := Nat.mod_eq_of_lt (by omega)
  rw [e1] at hm
  have h3 : (k : Int) / 4294967296 = 0 := by omega
  have hw := Mul64.wrapN k (by omega)
  clear e1
  go_enter Try.func85, Try.ntmps85
  go_wp2
  go_ret2
  exact ⟨rfl, rfl⟩
theorem mul_one (k : Nat) (hk : k ≤ 64) (w : World) :
    Calls Try.prog 71 #[.int .u64 1, .int .u64 (k : Nat)] w fun e w' => e = .returned (.tuple #[.int .u64 0, .int .u64 (k : Nat)]) ∧ w = w' := by
  go_enter Try.func71, Try.ntmps71
  go_wp2_with fail
  refine (mul64_one k hk _).mono ?_
  rintro e w' ⟨rfl, rfl⟩
  go_wp2
  go_ret2
  exact ⟨rfl, rfl⟩
theorem rep_add {α : Type} (a b : Nat) (x : α) : List.replicate (a + b) x = List.replicate a x ++ List.replicate b x := by
  rw [List.replicate_append_replicate]
/-- so many values as they are at first. -/
def firsts (n : Nat) : List Vp := List.replicate n (1, 0)
/-- the row of which the first m are laid. -/
def mix (n m : Nat) : List Vp := List.replicate m (1, 0) ++ List.replicate (n - m) (0, 0)
theorem mix_len {n m : Nat} (h : m ≤ n) : (mix n m).length = n := by simp [mix]; omega
theorem mix_flat (n m : Nat) : (Rn.flat encV (mix n m)) = Rn.flat encV (List.replicate m (1, 0)) ++ Rn.flat encV (List.replicate (n - m) (0, 0)) := Rn.flat_append _ _
theorem mix_all (n : Nat) : mix n n = firsts n := by simp [mix, firsts]
theorem flat_rep (m : Nat) (v : Vp) : Rn.flat encV (List.replicate m v) = (List.replicate m (encV.cells v)).flatten := by simp [Rn.flat, List.flatMap]
/-- more of them laid behind those that are. -/
theorem mix_splice {n m p : Nat} (h : m + p ≤ n) : splice (Rn.flat encV (mix n m)) (m * 2) (Rn.flat encV (List.replicate p (1, 0))) = Rn.flat encV (mix n (m + p)) := by
  have l1 : (Rn.flat encV (List.replicate m ((1 : Int), (0 : Int)))).length = m * 2 := by rw [Rn.flat_len]; simp
  have l2 : (Rn.flat encV (List.replicate p ((1 : Int), (0 : Int)))).length = p * 2 := by rw [Rn.flat_len]; simp
  unfold splice
  rw [mix_flat, l2]
  have e1 : (Rn.flat encV (List.replicate m (1, 0)) ++ Rn.flat encV (List.replicate (n - m) (0, 0))).take (m * 2) = Rn.flat encV (List.replicate m (1, 0)) := by
    rw [List.take_append_of_le_length (by omega), List.take_of_length_le (by omega)]
  have e2 : (Rn.flat encV (List.replicate m (1, 0)) ++ Rn.flat encV (List.replicate (n - m) (0, 0))).drop (m * 2 + p * 2) = Rn.flat encV (List.replicate (n - (m + p)) (0, 0)) := by
    have hx : n - m = p + (n - (m + p)) := by omega
    have l3 : (Rn.flat encV (List.replicate p ((0 : Int), (0 : Int)))).length = p * 2 := by rw [Rn.flat_len]; simp
    rw [← List.drop_drop, List.drop_left' l1, hx, rep_add, Rn.flat_append, List.drop_left' l3]
  rw [e1, e2, mix_flat, rep_add, Rn.flat_append, List.append_assoc]
theorem mix_head (n m p : Nat) (h : p ≤ m) (j : Nat) (u : Value) (hu : (Rn.flat encV (List.replicate p (1, 0)))[j]? = some u) : (Rn.flat encV (mix n m))[j]? = some u := by
  have hx : m = p + (m - p) := by omega
  rw [mix_flat, hx, rep_add, Rn.flat_append, List.append_assoc, List.getElem?_append_left (List.getElem?_eq_some_iff.1 hu).1]
  exact hu
/-- a row that is known whole. -/
def RowIs (w : World) (g n m : Nat) : Prop := w.heap[g]? = some (.cells (Rn.flat encV (mix n m)).toArray 46 (0, 0))
theorem run_copy2 {W : World} {g n m p : Nat} (hg : RowIs W g n m) (hp : m + p ≤ n) (ty : TypeId) (off : Nat) (ho : off = m * 2) (dLen dCap sLen sCap : Nat) (hmin : Nat.min sLen dLen = p) {ad : Addr} (hs : ∀ j u, (Rn.flat encV (List.replicate p (1, 0)))[j]? = some u → W.cell? (ad.add j) = some u) :
    ∃ w', (Builtin.copy_ #[82, 82] ty #[.slice (some ⟨g, off, none⟩) dLen dCap, .slice (some ad) sLen sCap]).run Try.prog W = .ok (goInt p) w' ∧ RowIs w' g n (m + p) ∧ ∀ B w0, Below B w0 W → B ≤ g → Below B w0 w' := by
  subst ho
  have hl2 : (Rn.flat encV (List.replicate p ((1 : Int), (0 : Int)))).length = p * 2 := by rw [Rn.flat_len]; simp
  have hlm : (Rn.flat encV (mix n m)).length = n * 2 := by rw [Rn.flat_len, mix_len (by omega)]
  have hl := run_loadCells_list (P := Try.prog) W ad _ hs
  have hst := run_storeCells_at Try.prog g (m * 2) 46 (Rn.flat encV (List.replicate p (1, 0))) 0 _ W hg (by simp [hl2, hlm]; omega) (Rn.flat_one _)
  obtain ⟨i, hi, hz, hs, hb⟩ := info_parts val_info
  refine ⟨W.setRow g (splice (Rn.flat encV (mix n m)) (m * 2) (Rn.flat encV (List.replicate p (1, 0)))).toArray, ?_, ?_, fun B w0 hb hB => below_setRow hb hB _⟩
  · rw [hl2] at hl
    simp [Builtin.copy_, run_underlying Try.underlying82, Builtin.lenOf, Builtin.firstCells, sizeOf, typeInfo, hi, hs, hmin, hl, hst, splice]
  · unfold RowIs
    rw [← mix_splice hp]
    exact setRow_heap W g _ _ 46 _ hg
theorem copy2 {ops : Array Oper} {rest : List Oper} {o : Oper} {a : Act} {Q : Exit → Act → World → Prop} (hgd : o.guard = none) (d s : Operand) (ho : o.op = .call { callee := .builtin .copy, args := #[d, s], argTypes := #[82, 82] })
    {W : World} {g n m p : Nat} (hg : RowIs W g n m) (hp : m + p ≤ n) (off : Nat) (hof : off = m * 2) (dLen dCap sLen sCap : Nat) (hmin : Nat.min sLen dLen = p) {ad : Addr} (hd : a.eval d = .slice (some ⟨g, off, none⟩) dLen dCap) (hx : a.eval s = .slice (some ad) sLen sCap)
    (hs : ∀ j u, (Rn.flat encV (List.replicate p (1, 0)))[j]? = some u → W.cell? (ad.add j) = some u)
    (h : ∀ w', RowIs w' g n (m + p) → (∀ B w0, Below B w0 W → B ≤ g → Below B w0 w') → wpList Try.prog ops Q rest (a.put o.dst (goInt p)) w') : wpList Try.prog ops Q (o :: rest) a W := by
  obtain ⟨w', hr, h1, h2⟩ := run_copy2 hg hp o.type off hof dLen dCap sLen sCap hmin hs
  refine wpList_plain hgd fun _ hK => ?_
  unfold Oper.wp execOp
  simp only [ho, resolve, invoke, builtin, Sem.run_bind, Sem.run_pure, Result.andThen_ok, List.map_toArray, List.map_cons, List.map_nil, hd, hx, hr]
  exact hK _ _ (h w' h1 h2)
theorem mix_again {n m p : Nat} (h : m + p ≤ n) : splice (Rn.flat encV (mix n (m + p))) (m * 2) (Rn.flat encV (List.replicate p (1, 0))) = Rn.flat encV (mix n (m + p)) := by
  have l1 : (Rn.flat encV (List.replicate m ((1 : Int), (0 : Int)))).length = m * 2 := by rw [Rn.flat_len]; simp
  have l2 : (Rn.flat encV (List.replicate p ((1 : Int), (0 : Int)))).length = p * 2 := by rw [Rn.flat_len]; simp
  unfold splice
  rw [mix_flat, rep_add, Rn.flat_append, List.append_assoc, l2, List.take_left' l1, ← List.drop_drop, List.drop_left' l1, List.drop_left' l2]
theorem run_copy3 {W : World} {g n m p : Nat} (hg : RowIs W g n m ∨ RowIs W g n (m + p)) (hp : m + p ≤ n) (ty : TypeId) (dLen dCap sLen sCap : Nat) (hmin : Nat.min sLen dLen = p) {ad : Addr} (hs : ∀ j u, (Rn.flat encV (List.replicate p (1, 0)))[j]? = some u → W.cell? (ad.add j) = some u) :
    ∃ w', (Builtin.copy_ #[82, 82] ty #[.slice (some ⟨g, m * 2, none⟩) dLen dCap, .slice (some ad) sLen sCap]).run Try.prog W = .ok (goInt p) w' ∧ RowIs w' g n (m + p) ∧ ∀ B w0, Below B w0 W → B ≤ g → Below B w0 w' := by
  rcases hg with hg | hg
  · exact run_copy2 hg hp ty _ rfl dLen dCap sLen sCap hmin hs
  · have hl2 : (Rn.flat encV (List.replicate p ((1 : Int), (0 : Int)))).length = p * 2 := by rw [Rn.flat_len]; simp
    have hlm : (Rn.flat encV (mix n (m + p))).length = n * 2 := by rw [Rn.flat_len, mix_len (by omega)]
    have hl := run_loadCells_list (P := Try.prog) W ad _ hs
    have hst := run_storeCells_at Try.prog g (m * 2) 46 (Rn.flat encV (List.replicate p (1, 0))) 0 _ W hg (by simp [hl2, hlm]; omega) (Rn.flat_one _)
    obtain ⟨i, hi, hz, hs, hb⟩ := info_parts val_info
    refine ⟨W.setRow g (splice (Rn.flat encV (mix n (m + p))) (m * 2) (Rn.flat encV (List.replicate p (1, 0)))).toArray, ?_, ?_, fun B w0 hb hB => below_setRow hb hB _⟩
    · rw [hl2] at hl
      simp [Builtin.copy_, run_underlying Try.underlying82, Builtin.lenOf, Builtin.firstCells, sizeOf, typeInfo, hi, hs, hmin, hl, hst, splice]
    · unfold RowIs
      rw [mix_again hp]
      have := setRow_heap W g _ (Rn.flat encV (mix n (m + p))).toArray 46 _ hg
      exact this
theorem step_copy3 {ops : Array Oper} {o : Oper} {a : Act} {K : Act → World → Prop} {Q : Exit → Act → World → Prop} {E : Prop} (hgd : o.guard = none) (d s : Operand) (ho : o.op = .call { callee := .builtin .copy, args := #[d, s], argTypes := #[82, 82] })
    {W : World} {g n m p : Nat} (hg : RowIs W g n m ∨ RowIs W g n (m + p)) (hp : m + p ≤ n) (dLen dCap sLen sCap : Nat) (hmin : Nat.min sLen dLen = p) {ad : Addr} (hd : a.eval d = .slice (some ⟨g, m * 2, none⟩) dLen dCap) (hx : a.eval s = .slice (some ad) sLen sCap)
    (hs : ∀ j u, (Rn.flat encV (List.replicate p (1, 0)))[j]? = some u → W.cell? (ad.add j) = some u)
    (h : ∀ w', RowIs w' g n (m + p) → (∀ B w0, Below B w0 W → B ≤ g → Below B w0 w') → K (a.put o.dst (goInt p)) w') : if Region.wanted o (yielded ops a.tmps) = true then Oper.wp Try.prog o a W K Q else E := by
  obtain ⟨w', hr, h1, h2⟩ := run_copy3 hg hp o.type dLen dCap sLen sCap hmin hs
  have hw : Region.wanted o (yielded ops a.tmps) = true := by simp [Region.wanted, hgd]
  rw [if_pos hw]
  unfold Oper.wp execOp
  simp only [ho, resolve, invoke, builtin, Sem.run_bind, Sem.run_pure, Result.andThen_ok, List.map_toArray, List.map_cons, List.map_nil, hd, hx, hr]
  exact h w' h1 h2
theorem cells3 {W : World} {g n m p : Nat} (hg : RowIs W g n m ∨ RowIs W g n (m + p)) (hp : p ≤ m) (j : Nat) (u : Value) (hu : (Rn.flat encV (List.replicate p (1, 0)))[j]? = some u) : W.cell? ((⟨g, 0, none⟩ : Addr).add j) = some u := by
  have hadd : (⟨g, 0, none⟩ : Addr).add j = ⟨g, j, none⟩ := by unfold Addr.add; split <;> simp_all
  rw [hadd]
  rcases hg with h | h
  · rw [cell_of_row W g j _ _ (0, 0) h]; simpa using mix_head n m p hp j u hu
  · rw [cell_of_row W g j _ _ (0, 0) h]; simpa using mix_head n (m + p) p (by omega) j u hu
theorem RowIs.own {w : World} {g n base : Nat} (h : RowIs w g n n) (hb : base ≤ g) (hn : n ≤ 64) : Rn.Own encV w base 46 (.slice (some ⟨g, 0, none⟩) n n) (firsts n) := by
  unfold RowIs at h
  rw [mix_all] at h
  have hl : (firsts n).length = n := by simp [firsts]
  have hfl : (Rn.flat encV (firsts n)).length = n * 2 := by rw [Rn.flat_len, hl]
  refine ⟨Rn.flat_len _, .inr ⟨g, n, _, by rw [hl], hb, h, by rw [hl]; omega, by unfold maxLen; omega, by simp [hfl], ?_⟩⟩
  rw [hl]
  show (Rn.flat encV (firsts n)).take (n * 2) = _
  rw [List.take_of_length_le (by rw [hfl]; omega)]
theorem mix_zero (n : Nat) : mix n 0 = List.replicate n (0, 0) := by simp [mix]
theorem made_flat (n : Nat) : (madeCells #[.int .i64 0, .int .i64 0] (n * 2)).toList = Rn.flat encV (mix n 0) := by
  rw [mix_zero]
  apply List.ext_getElem?
  intro j
  by_cases hj : j < n * 2
  · have h1 : (List.replicate n ((0 : Int), (0 : Int)))[j / 2]? = some (0, 0) := by rw [List.getElem?_replicate, if_pos (by omega)]
    have h2 := Rn.flat_at (E := encV) h1 (j % 2) (Nat.mod_lt _ (by decide))
    have e : j / 2 * 2 + j % 2 = j := by omega
    rw [e] at h2
    rw [h2]
    have hm : j % 2 < 2 := Nat.mod_lt _ (by decide)
    simp [madeCells, hj]
    generalize j % 2 = r at hm
    match r, hm with
    | 0, _ => rfl
    | 1, _ => rfl
  · rw [List.getElem?_eq_none (by simp [madeCells]; omega), List.getElem?_eq_none (by rw [Rn.flat_len]; simp; omega)]
theorem made_is (w : World) (n : Nat) : RowIs (w.alloc (.cells (madeCells #[.int .i64 0, .int .i64 0] (n * 2)) 46)) w.heap.size n 0 := by
  unfold RowIs
  rw [← made_flat]
  exact heap_alloc_new w _
theorem RowIs.below {w w' : World} {g n m : Nat} (h : RowIs w g n m) {B : Nat} (hb : Below B w w') (hB : g < B) : RowIs w' g n m := (hb.block g hB).trans h
theorem RowIs.cell {w : World} {g n m p : Nat} (h : RowIs w g n m) (hp : p ≤ m) (j : Nat) (u : Value) (hu : (Rn.flat encV (List.replicate p (1, 0)))[j]? = some u) : w.cell? ((⟨g, 0, none⟩ : Addr).add j) = some u := by
  have hadd : (⟨g, 0, none⟩ : Addr).add j = ⟨g, j, none⟩ := by unfold Addr.add; split <;> simp_all
  rw [hadd, cell_of_row w g j _ _ (0, 0) h]
  simpa using mix_head n m p hp j u hu
def RpRel (w : World) (g n : Nat) (i : Value) (wr : World) : Prop := ∃ m : Nat, (m = 0 → n = 0) ∧ m ≤ n ∧ i = .int .i64 m ∧ RowIs wr g n m ∧ Below w.heap.size w wr
set_option maxHeartbeats 2000000 in
set_option maxRecDepth 100000 in
theorem repeat_any (ad : Addr) (c n : Nat) (w : World) (hn : n ≤ 64) (hA : Rn.At encV w (some ad) [(1, 0)]) :
    Calls Try.prog 58 #[.slice (some ad) 1 c, .int .i64 (n : Nat)] w (VlPost (firsts n) 46 w) := by
  have HA := Lib.hid hA
  clear hA
  obtain ⟨i0, hi, hz0, hz1, hz2⟩ := info_parts val_info
  have hmk := fun W => run_make (P := Try.prog) W 82 46 i0 _ Try.underlying82 hi hz0 .i64 .i64 (n : Nat) (n : Nat) (by omega) (by omega) (by rw [hz2]; omega) (by omega)
  simp only [Int.toNat_natCast, hz1, Value.cells] at hmk
  clear hi hz0 hz1 hz2
  have hni : (n : Int) ≤ 64 := by omega
  have hn0 : ¬ (n : Int) < 0 := by omega
  have HM := Lib.hid (made_is w n)
  have HB0 := Lib.hid (below_new w (.cells (madeCells #[.int .i64 0, .int .i64 0] (n * 2)) 46))
  go_enter Try.func58, Try.ntmps58
  go_wp2_with fail
  refine (mul_one n hn _).mono ?_
  rintro e w' ⟨rfl, rfl⟩
  have hcells : ∀ j u, (Rn.flat encV (List.replicate (min 1 n) ((1 : Int), (0 : Int))))[j]? = some u → (w.alloc (.cells (madeCells #[.int .i64 0, .int .i64 0] (n * 2)) 46)).cell? (ad.add j) = some u := by
    intro j u hu
    obtain ⟨ad', e, hc⟩ := (HA.out.alloc (.cells (madeCells #[.int .i64 0, .int .i64 0] (n * 2)) 46)).cell (by simp)
    have e := Option.some.inj e
    subst e
    refine hc j u ?_
    rcases Nat.eq_zero_or_pos n with h0 | h0
    · subst h0; simp [Rn.flat] at hu
    · rw [Nat.min_eq_left h0] at hu; exact hu
  have HC := Lib.hid hcells
  clear hcells
  go_wp2_with (refine copy2 (o := ⟨some 33, _, _, _, _, _⟩) (p := min 1 n) rfl (.tmp 31) (.tmp 32) rfl HM.out (by omega) 0 rfl n n 1 c rfl rfl rfl HC.out ?_)
  intro w1 hr1 hb1
  have HR1 := Lib.hid hr1
  have HB1 := Lib.hid (hb1 _ _ HB0.out (Nat.le_refl _))
  clear hr1 hb1 hmk
  have HR2 := Lib.hid HR1.out
  have hmi : min 1 n ≤ n := by omega
  have hm0 : min 1 n = 0 → n = 0 := by omega
  generalize min 1 n = m0 at HR2 hmi hm0 ⊢
  have HM0 := Lib.hid hm0
  clear hm0
  go_wp2
  go_loopw [8] (RpRel w w.heap.size n) (fun i _ => n - (intOf i).toNat)
  case atStart => exact ⟨m0, HM0.out, hmi, rfl, HR2.out, HB1.out⟩
  case round =>
    obtain ⟨m, hm0, hmn, rfl, hr, hb⟩ := hrel
    have HR := Lib.hid hr
    have HB := Lib.hid hb
    have HMM := Lib.hid hm0
    clear hr hb hm0
    by_cases hlt : m < n
    · have hlt' : (m : Int) < (n : Int) := by omega
      have hmi : (0 : Int) ≤ (m : Int) := by omega
      have HRD := Lib.hid (show RowIs wr.drew w.heap.size n m from HR.out)
      obtain ⟨q, hq⟩ : ∃ q, q = Nat.min m (n - m) := ⟨_, rfl⟩
      have hq2 : q = min m (n - m) := hq
      have HQE := Lib.hid hq
      have HQM := Lib.hid (show q ≤ m by omega)
      have hp : m + q ≤ n := by omega
      have hq0 : 0 < q := by have := HMM.out; omega
      have hpi : (m : Int) + (q : Int) ≤ 64 := by omega
      have HNE := Lib.hid (show ¬ n = m by omega)
      clear hq hq2
      have HLT := Lib.hid hlt
      have HBD := Lib.hid (show Below w.heap.size w wr.drew from HB.out.trans (Tx.below_drewN _ wr 1))
      go_wp2
      refine wp_region_noPanic ?_
      refine region_z 10 (fun W => (RowIs W w.heap.size n m ∨ RowIs W w.heap.size n (m + q)) ∧ Below w.heap.size w W) 9 1000 rfl (by kernel_rfl) (by exact ⟨.inl HRD.out, HBD.out⟩) (fun hHeld => ?_)
      refine take_z 0 38 (.int .i64 (m : Nat)) rfl rfl (by kernel_rfl) (by kernel_rfl) (by kernel_rfl) (by kernel_rfl) (fun _ _ _ h => h) (Or.inl ⟨by rfl, by intro W hW; clear hW; go_simp⟩) hHeld ?_
      simp only [put_laws]
      refine take_z 1 39 (.slice (some ⟨w.heap.size, 0, none⟩) n n) rfl rfl (by kernel_rfl) (by kernel_rfl) (by kernel_rfl) (by kernel_rfl) (fun _ _ _ h => h) (Or.inl ⟨by rfl, by intro W hW; clear hW; go_simp⟩) hHeld ?_
      simp only [put_laws]
      refine take_z 2 40 (.int .i64 (m : Nat)) rfl rfl (by kernel_rfl) (by kernel_rfl) (by kernel_rfl) (by kernel_rfl) (fun _ _ _ h => h) (Or.inl ⟨by rfl, by intro W hW; clear hW; go_simp⟩) hHeld ?_
      simp only [put_laws]
      refine take_z 3 41 (.slice (some ⟨w.heap.size, m * 2, none⟩) (n - m) (n - m)) rfl rfl (by kernel_rfl) (by kernel_rfl) (by kernel_rfl) (by kernel_rfl) (fun _ _ _ h => h) (Or.inl ⟨by rfl, by intro W hW; have hlt0 := HLT.out; have hne := HNE.out; clear hW; go_simp⟩) hHeld ?_
      simp only [put_laws]
      refine take_z 4 42 (.slice (some ⟨w.heap.size, 0, none⟩) n n) rfl rfl (by kernel_rfl) (by kernel_rfl) (by kernel_rfl) (by kernel_rfl) (fun _ _ _ h => h) (Or.inl ⟨by rfl, by intro W hW; clear hW; go_simp⟩) hHeld ?_
      simp only [put_laws]
      refine take_z 5 43 (.int .i64 (m : Nat)) rfl rfl (by kernel_rfl) (by kernel_rfl) (by kernel_rfl) (by kernel_rfl) (fun _ _ _ h => h) (Or.inl ⟨by rfl, by intro W hW; clear hW; go_simp⟩) hHeld ?_
      simp only [put_laws]
      refine take_z 6 44 (.slice (some ⟨w.heap.size, 0, none⟩) m n) rfl rfl (by kernel_rfl) (by kernel_rfl) (by kernel_rfl) (by kernel_rfl) (fun _ _ _ h => h) (Or.inl ⟨by rfl, by intro W hW; have hlt0 := HLT.out; clear hW; go_simp⟩) hHeld ?_
      simp only [put_laws]
      refine anyZ_ready (rs := [7]) (by kernel_rfl) (by simp) ?_
      refine AllZ.cons rfl (fun K hK => ?_) AllZ.nil
      refine step_copy3 (p := q) rfl (.tmp 41) (.tmp 44) rfl hHeld.1 hp (n - m) (n - m) m n HQE.out.symm rfl rfl (fun j u hu => cells3 hHeld.1 HQM.out j u hu) ?_
      intro w2 hr2 hb2
      have HR2 := Lib.hid hr2
      have hPrev := hHeld
      have hHeld : (RowIs w2 w.heap.size n m ∨ RowIs w2 w.heap.size n (m + q)) ∧ Below w.heap.size w w2 := ⟨.inr hr2, hb2 _ _ hPrev.2 (Nat.le_refl _)⟩
      clear hr2 hb2 hPrev
      refine hK.out _ _ hHeld (fun hHeld => ?_)
      clear hK K
      refine take_z 8 46 (.int .i64 ((m + q : Nat) : Int)) rfl rfl (by kernel_rfl) (by kernel_rfl) (by kernel_rfl) (by kernel_rfl) (fun _ _ _ h => h) (Or.inl ⟨by rfl, by intro W hW; have hwr : IntKind.i64.wrap ((m : Int) + (q : Int)) = ((m + q : Nat) : Int) := (by rw [IntKind.wrap_i64]; omega); clear hW; go_simp⟩) hHeld ?_
      simp only [put_laws]
      refine anyZ_ready (rs := [9]) (by kernel_rfl) (by simp) ?_
      refine AllZ.last rfl rfl (fun K hK => ?_)
      go_simp
      refine hK.out _ _ ?_
      clear hK K
      refine anyZ_done (by kernel_rfl) ?_ _
      refine NoPanic.normal ?_
      go_wp2
      go_round
      case rel => exact ⟨m + q, by omega, by omega, rfl, HR2.out, hHeld.2⟩
      case measure => simp [intOf]; omega
    · have e2 : m = n := by omega
      subst e2
      have hlt' : ¬ (m : Int) < (m : Int) := by omega
      go_wp2
      go_ret
      exact ⟨_, rfl, HR.out.own (Nat.le_refl _) hn, HB.out⟩
end Go.Proofs.Ytaonepbongbhoaa.Rp
namespace Go.Proofs.Ytaonepbongbhoaa.Rp
open Go.RowKit Tx
/-- how many variables there are. -/
def cl (n : Int) : Nat := (min (max n 0) 64).toNat
theorem cl_le (n : Int) : cl n ≤ 64 := by unfold cl; omega
theorem firsts_succ (k : Nat) : firsts (k + 1) = firsts k ++ [(1, 0)] := by simp [firsts, List.replicate_succ']
set_option maxHeartbeats 1000000 in
set_option maxRecDepth 100000 in
theorem begin_at (n : Int) (k : Nat) (hk : min (max n 0) 64 = (k : Nat)) (hk2 : k ≤ 64) (w : World) : Calls Try.prog 43 #[.int .i64 n] w (VlPost (firsts k) 46 w) := by
  have HA := Lib.hid (Rn.At.new (E := encV) w (1, 0) #[.int .i64 1, .int .i64 0] rfl 46 rfl)
  have HB := Lib.hid (below_new w (.cells #[.int .i64 1, .int .i64 0] 46))
  have HK := Lib.hid hk
  rcases Int.lt_or_le n 0 with h | h
  · have hz : k = 0 := by omega
    subst hz
    have h2 : ¬ n > 0 := by omega
    clear hk
    go_enter Try.func43, Try.ntmps43
    go_wp2_with fail
    refine (repeat_any ⟨w.heap.size, 0, none⟩ 1 0 _ (by omega) HA.out).mono ?_
    rintro e w1 ⟨v, rfl, ho, hb⟩
    have HO := Lib.hid (ho.mono (B := w.heap.size) (by simp))
    have HB1 := Lib.hid (HB.out.trans (hb.mono HB.out.size))
    clear ho hb
    go_wp2
    go_ret
    exact ⟨v, rfl, HO.out, HB1.out⟩
  · rcases Int.lt_or_le 64 n with h3 | h3
    · have hz : k = 64 := by omega
      subst hz
      clear hk
      go_enter Try.func43, Try.ntmps43
      go_wp2_with fail
      refine (repeat_any ⟨w.heap.size, 0, none⟩ 1 64 _ (by omega) HA.out).mono ?_
      rintro e w1 ⟨v, rfl, ho, hb⟩
      have HO := Lib.hid (ho.mono (B := w.heap.size) (by simp))
      have HB1 := Lib.hid (HB.out.trans (hb.mono HB.out.size))
      clear ho hb
      go_wp2
      go_ret
      exact ⟨v, rfl, HO.out, HB1.out⟩
    · have hz : n = (k : Nat) := by omega
      subst hz
      have hki : (k : Int) ≤ 64 := by omega
      clear hk
      go_enter Try.func43, Try.ntmps43
      go_wp2_with fail
      refine (repeat_any ⟨w.heap.size, 0, none⟩ 1 k _ (by omega) HA.out).mono ?_
      rintro e w1 ⟨v, rfl, ho, hb⟩
      have HO := Lib.hid (ho.mono (B := w.heap.size) (by simp))
      have HB1 := Lib.hid (HB.out.trans (hb.mono HB.out.size))
      clear ho hb
      go_wp2
      go_ret
      exact ⟨v, rfl, HO.out, HB1.out⟩
theorem begin_any (n : Int) (w : World) : Calls Try.prog 43 #[.int .i64 n] w (VlPost (firsts (cl n)) 46 w) := begin_at n (cl n) (by unfold cl; omega) (cl_le n) w
def RbRel (n : Nat) (w : World) (v i : Value) (wr : World) : Prop := ∃ k : Nat, k ≤ n ∧ i = .int .i64 k ∧ Rn.Own encV wr w.heap.size 55 v (firsts k) ∧ Below w.heap.size w wr
end Go.Proofs.Ytaonepbongbhoaa.Rp
