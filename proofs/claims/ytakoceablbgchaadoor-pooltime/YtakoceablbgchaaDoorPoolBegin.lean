/-
  The contract of pool.Begin.
-/
import Derived.Test.YtakoceablbgchaaDoorPoolWalk4
namespace Go.Proofs.YtakoceablbgchaaDoor
open Go.RowKit
attribute [local go_sem ↓] Go.wp_at_zero Go.wp_at_succ
theorem results_pool2 {fn : Func} {c u v : Tmp} {ty : TypeId} (h : fn.results = #[.cell c ty, .tmp u, .tmp v]) (tmps : Array Value) (w : World) (g : Nat) (t : TypeId) (p : Pl) (d : TypeDesc) (x y : Value)
    (hp : tmps.getD c undef = .pointer (some ⟨g, 0, none⟩)) (hx : tmps.getD u undef = x) (hy : tmps.getD v undef = y) (hg : PoolAt w g p t)
    (hu : Tryd.prog.underlying ty = some d) (hd : d.isRow = true) (hi : (Tryd.prog.info? ty).map (·.size) = some 100) :
    (results fn tmps).run Tryd.prog w = .ok (.tuple #[.agg (poolA p), x, y]) w := by
  have hp' : tmps[c]?.getD undef = .pointer (some ⟨g, 0, none⟩) := by simpa using hp
  have hx' : tmps[u]?.getD undef = x := by simpa using hx
  have hy' : tmps[v]?.getD undef = y := by simpa using hy
  simp only [results, h]
  simp [hp', hx', hy', asAddr, Result.andThen, load_whole w g p t ty d hg hu hd hi]
theorem Own.setCells {base : Nat} {v : Value} {l : List Nat} (b : Nat) (hb : b < base) : ∀ (vs : List Value) (o : Nat) (w : World), Own w base v l → Own (w.setCells b o vs) base v l
  | [], _, _, h => h
  | _ :: r, o, _, h => Own.setCells b hb r (o + 1) _ (h.setCell _ _ hb)
theorem store_mQ {ops : Array Oper} {rest : List Oper} {op : Oper} {a : Act} {W : World} {Q : Exit → Act → World → Prop} (hgd : op.guard = none) (ty : TypeId) (x y : Operand) (ho : op.op = .store ty x y) (hds : op.dst = none)
    (w : World) (p q : Pl) (n : Mm.Gr) (t : Nat) (hx : a.eval x = .pointer (some ⟨w.heap.size, 1, none⟩)) (hy : a.eval y = .agg (matA n)) (h : QSt p t w q W) (hi : (Tryd.prog.info? ty).map (·.size) = some 32)
    (hK : ∀ W', QSt { p with m := n } t w q W' → (∀ base v l, w.heap.size < base → Own W base v l → Own W' base v l) → (∀ k, k ≠ w.heap.size → W'.heap[k]? = W.heap[k]?) → wpList Tryd.prog ops Q rest a W') : wpList Tryd.prog ops Q (op :: rest) a W :=
  store_m hgd ty x y ho hds w.heap.size p n t hx hy h.po hi (hK _ (h.put_m n) (fun _ _ _ hb ho => Own.setCells _ hb _ _ _ ho) (fun _ hk => heap_setCells_other _ _ hk _ _ _))
theorem store_oQ {ops : Array Oper} {rest : List Oper} {op : Oper} {a : Act} {W : World} {Q : Exit → Act → World → Prop} (hgd : op.guard = none) (ty : TypeId) (x y : Operand) (ho : op.op = .store ty x y) (hds : op.dst = none)
    (w : World) (p q : Pl) (n : Od.O) (t : Nat) (hx : a.eval x = .pointer (some ⟨w.heap.size, 33, none⟩)) (hy : a.eval y = .agg (ordA n)) (h : QSt p t w q W) (hi : (Tryd.prog.info? ty).map (·.size) = some 32)
    (hK : ∀ W', QSt { p with o := n } t w q W' → (∀ base v l, w.heap.size < base → Own W base v l → Own W' base v l) → (∀ k, k ≠ w.heap.size → W'.heap[k]? = W.heap[k]?) → wpList Tryd.prog ops Q rest a W') : wpList Tryd.prog ops Q (op :: rest) a W :=
  store_o hgd ty x y ho hds w.heap.size p n t hx hy h.po hi (hK _ (h.put_o n) (fun _ _ _ hb ho => Own.setCells _ hb _ _ _ ho) (fun _ hk => heap_setCells_other _ _ hk _ _ _))
theorem ff_val (p : Pl) (v : Int) (w : World) (hp : p.Ok) (h : ffV p = v) : Calls Tryd.prog 48 #[.agg (poolA p)] w fun e w' => e = .returned (.int .i64 v) ∧ Below w.heap.size w w' := by
  have := firstFree_any p w hp
  rw [h] at this; exact this
set_option maxHeartbeats 1000000 in
set_option maxRecDepth 100000 in
theorem begin_full (p : Pl) (w : World) (hp : p.Ok) (hf : Po.ff p = none) :
    Calls Tryd.prog 20 #[.agg (poolA p)] w fun e w' => e = .returned (.tuple #[.agg (poolA p), .int .i64 0, .int .i64 4]) ∧ Below w.heap.size w w' := by
  have hz := (zero_of_info zero_pool_info).1
  have H0 := Lib.hid (qst_first p 31 w)
  have HP := Lib.hid hp
  have HV := Lib.hid (show ffV p = -1 by unfold ffV; rw [hf])
  clear hp hf
  go_enter Tryd.func20, Tryd.ntmps20
  go_wp2_with (refine load_pool rfl 31 (.tmp 1) rfl w.heap.size p 31 rfl _ H0.out.po Tryd.underlying31 rfl pool_info ?_)
  refine (ff_val p _ _ HP.out HV.out).mono ?_
  rintro e w1 ⟨rfl, hb1⟩
  have H1 := Lib.hid (H0.out.below hb1)
  clear hb1 H0
  go_wp2_with (first
    | (refine load_pool rfl 31 (.tmp 1) rfl w.heap.size p 31 rfl _ H1.out.po Tryd.underlying31 rfl pool_info ?_)
    | (refine store_pool rfl 31 (.tmp 2) (.tmp 12) rfl rfl (w.heap.size + 1) _ p 31 rfl rfl H1.out.re pool_info ?_))
  refine bodyPost_ret (results_pool2 rfl _ _ (w.heap.size + 1) 31 p _ (.int .i64 0) (.int .i64 4) rfl rfl rfl (H1.out.tell p).re Tryd.underlying31 rfl pool_info) rfl ⟨rfl, (H1.out.tell p).bel⟩
noncomputable def begTo (p : Pl) (s k : Nat) : Pl := Po.over (Po.opened p s) (Po.insAll s ((Sm.items p.done).take k) (p.m, p.o))
structure BSt (p : Pl) (s : Nat) (w : World) (base : Nat) (v : Value) (k : Nat) (W : World) : Prop where
  st : QSt (begTo p s k) 31 w zeroP W
  row : Own W base v (Sm.items p.done)
  lt : w.heap.size < base
theorem BSt.below {p : Pl} {s : Nat} {w : World} {base : Nat} {v : Value} {k : Nat} {W W' : World} (h : BSt p s w base v k W) (hb : Below W.heap.size W W') : BSt p s w base v k W' :=
  ⟨h.st.below hb, h.row.below hb (Nat.le_refl _), h.lt⟩
def BegRel (p : Pl) (s : Nat) (w : World) (base : Nat) (v : Value) (i : Value) (wr : World) : Prop :=
  ∃ k : Nat, k ≤ (Sm.items p.done).length ∧ i = .int .i64 k ∧ BSt p s w base v k wr
theorem begTo_ok {p : Pl} (hp : p.Ok) (s k : Nat) : Mm.Ok (begTo p s k).m ∧ Od.Ok (begTo p s k).o := by
  have key : ∀ (l : List Nat) (x : Mm.Gr × Od.O), Mm.Ok x.1 → Od.Ok x.2 → Mm.Ok (Po.insAll s l x).1 ∧ Od.Ok (Po.insAll s l x).2 := by
    intro l
    induction l with
    | nil => intro x h1 h2; exact ⟨h1, h2⟩
    | cons c r ih => intro x h1 h2; exact ih _ (Od.insert_ok _ _ h1) (Od.insert_okO _ _ h2)
  exact key _ _ hp.m hp.o
theorem begTo_step {p : Pl} {s k j : Nat} (h : (Sm.items p.done)[k]? = some j) :
    begTo p s (k + 1) = { begTo p s k with m := (Od.insert (begTo p s k).m (begTo p s k).o (j : Nat) (s : Nat)).1, o := (Od.insert (begTo p s k).m (begTo p s k).o (j : Nat) (s : Nat)).2.1 } := by
  obtain ⟨hl, rfl⟩ := List.getElem?_eq_some_iff.1 h
  unfold begTo
  rw [List.take_succ_eq_append_getElem hl, Po.insAll_snoc]
  rfl
set_option maxHeartbeats 2000000 in
set_option maxRecDepth 100000 in
theorem begin_some (p : Pl) (s : Nat) (w : World) (hp : p.Ok) (hc : p.count < 9223372036854775807) (hf : Po.ff p = some s) (hT : TabAt w) :
    Calls Tryd.prog 20 #[.agg (poolA p)] w fun e w' => e = .returned (.tuple #[.agg (poolA (Po.begun p s)), .int .i64 (s : Nat), .int .i64 0]) ∧ Below w.heap.size w w' := by
  have hz := (zero_of_info zero_pool_info).1
  have H0 := Lib.hid (qst_first p 31 w)
  have HP := Lib.hid hp
  have HT := Lib.hid hT
  have hs := (Po.ff_spec hf).1
  have HV := Lib.hid (show ffV p = (s : Int) by unfold ffV; rw [hf])
  have hc0 := hp.count.1
  clear hp hf hT
  go_enter Tryd.func20, Tryd.ntmps20
  go_wp2_with (refine load_pool rfl 31 (.tmp 1) rfl w.heap.size p 31 rfl _ H0.out.po Tryd.underlying31 rfl pool_info ?_)
  refine (ff_val p _ _ HP.out HV.out).mono ?_
  rintro e w1 ⟨rfl, hb1⟩
  have H1 := Lib.hid (H0.out.below hb1)
  clear hb1 H0
  have c1 := H1.out.po.live_
  have f1 := H1.out.po.frozen 65
  have hsn : ((s : Int) == -1) = false := by simp
  go_wp2_with fail
  refine (with_any p.live (s : Nat) _ HP.out.live (by omega) (by omega)).mono ?_
  rintro e w' ⟨rfl, rfl⟩
  have H2 := Lib.hid (H1.out.put_live (Sm.add p.live (s : Nat)))
  have c2 := H2.out.po.count_
  have f2 := H2.out.po.frozen 99
  have H3 := Lib.hid (H2.out.put_count (p.count + 1))
  have c3 := H3.out.po.count_
  have f3 := H3.out.po.frozen (67 + s)
  have c3' := H3.out.po.id_ s hs
  have H4 := Lib.hid (H3.out.put_id s hs (p.count + 1))
  have c4 := H4.out.po.done_
  go_wp2_with fail
  refine (items_any p.done _ HP.out.done (tab_keep HT.out H4.out.bel)).mono ?_
  generalize ((w1.setCell ⟨w.heap.size, 65, none⟩ (.int .u64 (Sm.add p.live (s : Nat) : Nat))).setCell ⟨w.heap.size, 99, none⟩ (.int .i64 (p.count + 1))).setCell ⟨w.heap.size, 67 + s, none⟩ (.int .i64 (p.count + 1)) = w2 at *
  rintro e w3 ⟨v, rfl, hown, hb3⟩
  have H5 := Lib.hid (show BSt p s w w2.heap.size v 0 w3 from ⟨H4.out.below hb3, hown, H4.out.po.lt⟩)
  have hlen := Sm.items_len p.done
  obtain ⟨A, c, rfl, hc1, hc2⟩ := Own.shape H5.out.row
  clear hb3 hown c1 f1 c2 f2 c3 f3 c3' c4 H1 H2 H3 H4
  go_wp2
  go_loopw [31] (BegRel p s w w2.heap.size (.slice A (Sm.items p.done).length c)) (fun i _ => 64 - (intOf i).toNat)
  case atStart => exact ⟨0, by omega, rfl, H5.out⟩
  case round =>
    obtain ⟨k, hk, rfl, hst⟩ := hrel
    have HS := Lib.hid hst
    by_cases hnl : k < (Sm.items p.done).length
    · obtain ⟨g, rfl, hc⟩ := hst.row.at_ hnl
      have hj := Sm.items_lt (List.getElem_mem hnl)
      have HJ := Lib.hid (List.getElem?_eq_getElem hnl)
      generalize (Sm.items p.done)[k] = j at *
      have HE := Lib.hid (begTo_step (s := s) HJ.out)
      have HK := Lib.hid (begTo_ok HP.out s k)
      clear hst
      go_wp2_with (first
        | (refine load_m rfl 27 (.tmp 36) rfl w.heap.size _ 31 rfl _ HS.out.st.po Tryd.underlying27 rfl mat_info ?_)
        | (refine load_o rfl 29 (.tmp 38) rfl w.heap.size _ 31 rfl _ HS.out.st.po Tryd.underlying29 rfl ord_info ?_))
      refine (insert_any _ _ (j : Nat) (s : Nat) _ HK.out.1 HK.out.2 (by omega) (by omega) (tab_keep HT.out HS.out.st.bel)).mono ?_
      rintro e w4 ⟨rfl, hb4⟩
      have HS4 := Lib.hid (HS.out.below hb4)
      clear hb4 HS hc
      generalize hX : (Od.insert (begTo p s k).m (begTo p s k).o (j : Nat) (s : Nat)).1 = X at *
      generalize hO : (Od.insert (begTo p s k).m (begTo p s k).o (j : Nat) (s : Nat)).2.1 = O at *
      generalize (Od.insert (begTo p s k).m (begTo p s k).o (j : Nat) (s : Nat)).2.2 = b at *
      clear hX hO
      go_wp2_with (first
        | (refine store_mQ rfl 27 (.tmp 46) (.tmp 43) rfl rfl w _ _ X 31 rfl rfl HS4.out.st mat_info ?_; intro w5 h5 o5 _; have H5 := Lib.hid h5; have O5 := Lib.hid (o5 _ _ _ HS4.out.lt HS4.out.row); clear h5 o5)
        | (refine store_oQ rfl 29 (.tmp 47) (.tmp 44) rfl rfl w _ _ O 31 rfl rfl H5.out ord_info ?_; intro w6 h6 o6 _; have H6 := Lib.hid h6; have O6 := Lib.hid (o6 _ _ _ HS4.out.lt O5.out); clear h6 o6))
      refine ⟨⟨k + 1, by omega, by go_num, ?_, O6.out, HS4.out.lt⟩, by simp [intOf]; omega⟩
      rw [HE.out]; exact H6.out
    · obtain rfl : k = (Sm.items p.done).length := by omega
      clear hst
      have HE := Lib.hid (show begTo p s (Sm.items p.done).length = Po.begun p s by unfold begTo; rw [List.take_length]; rfl)
      have HQ := Lib.hid (show QSt (Po.begun p s) 31 w zeroP wr by rw [← HE.out]; exact HS.out.st)
      clear HS HE
      go_wp2_with (first
        | (refine load_pool rfl 31 (.tmp 1) rfl w.heap.size (Po.begun p s) 31 rfl _ HQ.out.po Tryd.underlying31 rfl pool_info ?_)
        | (refine store_pool rfl 31 (.tmp 2) (.tmp 49) rfl rfl (w.heap.size + 1) _ (Po.begun p s) 31 rfl rfl HQ.out.re pool_info ?_))
      refine bodyPost_ret (results_pool2 rfl _ _ (w.heap.size + 1) 31 (Po.begun p s) _ (.int .i64 (s : Nat)) (.int .i64 0) rfl rfl rfl (HQ.out.tell _).re Tryd.underlying31 rfl pool_info) rfl ⟨rfl, (HQ.out.tell _).bel⟩
theorem begin_any (p : Pl) (w : World) (hp : p.Ok) (hc : p.count < 9223372036854775807) (hT : TabAt w) :
    Calls Tryd.prog 20 #[.agg (poolA p)] w fun e w' => e = .returned (.tuple #[.agg (poolA (Po.begin p).1), .int .i64 (Po.begin p).2.1, .int .i64 (Po.begin p).2.2]) ∧ Below w.heap.size w w' := by
  unfold Po.begin
  cases hf : Po.ff p with
  | none => exact begin_full p w hp hf
  | some s => exact begin_some p s w hp hc hf hT
end Go.Proofs.YtakoceablbgchaaDoor
