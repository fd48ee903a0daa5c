/-
  Maps by whole numbers that a call has made, as functions; the contract of rising.
-/
import Derived.Test.YtgnajfijecmecaaTxnLook
import Derived.Maps.OwnIn
import Derived.Maps.OwnSet
import Derived.Maps.Views
import Derived.Deep.WholeRow
namespace Go.Proofs.Ytgnajfijecmecaa.Tx
open Go.RowKit Go.Shelf
open Go.Maps (Keyed int_keyed keyOf_int_mk)
def heldR (v : Value) : Option (DataW Value × List MemPlace) := some (.held v, [])
/-- the block b is a map of sz entries, at most n; at x it has f x; z stands for nothing. -/
def MapV (W : World) (b n sz : Nat) (z : Value) (f : Int → Option Value) : Prop :=
  ∃ D : DataW Value, W.ownsMap Try.prog 3 heldR b n D ∧ Maps.Tidy D ∧ Maps.size D = sz ∧ (∀ x, Maps.has D (.int .i64 x) = (f x).isSome) ∧ ∀ x, D.atKey (.int .i64 x) (.held z) = .held ((f x).getD z)
theorem wf_i64 {z : Int} (h : i64p z) : (Lit.int .i64 z).wf = true := by
  obtain ⟨h0, h1⟩ := h
  have e0 : IntKind.i64.min = -9223372036854775808 := by decide
  have e1 : IntKind.i64.max = 9223372036854775807 := by decide
  simp only [Lit.wf, e0, e1, Bool.and_eq_true, decide_eq_true_eq]
  exact ⟨h0, h1⟩
theorem MapV.lt {W : World} {b n sz : Nat} {z : Value} {f : Int → Option Value} (h : MapV W b n sz z f) : b < W.heap.size := by
  obtain ⟨D, ho, _⟩ := h
  exact ho.lt
theorem mapV_made (W : World) (z : Value) : MapV (W.alloc (.map #[] 0)) W.heap.size 0 0 z (fun _ => none) :=
  ⟨.map [], World.ownsMap_made W _ _ _, Maps.tidy_empty, rfl, fun _ => rfl, fun _ => rfl⟩
theorem MapV.keep {W W' : World} {b n sz B : Nat} {z : Value} {f : Int → Option Value} (h : MapV W b n sz z f) (hb : Below B W W') (hB : b < B) : MapV W' b n sz z f := by
  obtain ⟨D, ⟨es, clock, hh, F, hs, hD⟩, hm⟩ := h
  exact ⟨D, ⟨es, clock, (hb.block b hB).trans hh, F, hs, hD⟩, hm⟩
theorem MapV.kept {W W' : World} {b n sz : Nat} {row : Option Nat} {z : Value} {f : Int → Option Value} (h : MapV W b n sz z f) (hg : W.grownBy W' row) (hne : some b ≠ row) : MapV W' b n sz z f := by
  obtain ⟨D, ho, hm⟩ := h
  exact ⟨D, ho.kept hg hne, hm⟩
theorem MapV.alloc {W : World} {b n sz : Nat} {z : Value} {f : Int → Option Value} (h : MapV W b n sz z f) (o : Obj) : MapV (W.alloc o) b n sz z f := h.keep (below_new W o) h.lt
theorem MapV.congr {W : World} {b n sz : Nat} {z : Value} {f g : Int → Option Value} (h : MapV W b n sz z f) (e : ∀ x, f x = g x) : MapV W b n sz z g := by
  obtain rfl : f = g := funext e
  exact h
theorem MapV.look {W : World} {b n sz : Nat} {z : Value} {f : Int → Option Value} (h : MapV W b n sz z f) {t e : TypeId} (ht : Try.prog.underlying t = some (.map 3 e)) (hz : (zeroValue e).run Try.prog W = .ok z W) {x : Int} (hx : i64p x) :
    (Instr.lookup t (.map (some b)) (.int .i64 x) true).run Try.prog W = .ok (.tuple #[(f x).getD z, .bool (f x).isSome]) W := by
  obtain ⟨D, ho, _, _, hh, ha⟩ := h
  obtain ⟨v, ps, hrun, hv⟩ := ho.look_ok (int_keyed Try.underlying3) ht hz (zd := .held z) (zp := []) rfl (keyOf_int_mk Try.underlying3 (wf_i64 hx))
  rw [ha x] at hv
  simp only [heldR, Option.some.injEq, Prod.mk.injEq, DataW.held.injEq] at hv
  rw [hrun, hh x, hv.1]
theorem MapV.update {W : World} {b n sz : Nat} {z : Value} {f : Int → Option Value} (h : MapV W b n sz z f) {t e : TypeId} (ht : Try.prog.underlying t = some (.map 3 e)) (hn : n < 4096) {x : Int} (hx : i64p x) (u : Value) :
    ∃ W', (Instr.mapUpdate t (.map (some b)) (.int .i64 x) u).run Try.prog W = .ok () W' ∧ MapV W' b (n + 1) (if (f x).isSome then sz else sz + 1) z (fun y => if y = x then some u else f y) ∧ W.grownBy W' (some b) := by
  obtain ⟨D, ho, ht', hs, hh, ha⟩ := h
  obtain ⟨W', hrun, r1, r2⟩ := ho.update (int_keyed Try.underlying3) ht (by unfold maxLen; omega) (keyOf_int_mk Try.underlying3 (wf_i64 hx)) (val := u) (d := .held u) (ps := []) rfl
  refine ⟨W', hrun, ⟨_, r1, ht'.put (by simp [WideAt.IsKeyLit]) _, ?_, ?_, ?_⟩, r2⟩
  · rw [Maps.size_put ht', hh x, hs]
  · intro y
    show _ = (if y = x then some u else f y).isSome
    by_cases e : y = x
    · subst e
      rw [if_pos rfl, Maps.has_put_same ht'.isMap (by simp [WideAt.IsKeyLit])]; rfl
    · rw [if_neg e, Maps.has_put_other (by simpa using e), hh y]
  · intro y
    show _ = DataW.held ((if y = x then some u else f y).getD z)
    by_cases e : y = x
    · subst e
      rw [if_pos rfl, Maps.atKey_put_same ht'.isMap (by simp [WideAt.IsKeyLit])]; rfl
    · rw [if_neg e, Maps.atKey_put_other (by simpa using e), ha y]
theorem wpListIn_putM {F : Fence} {nF : Nat} {w : World} {ops : Array Oper} {rest : List Oper} {o : Oper} {a : Act} {Q : Exit → Act → World → Prop} (hg : o.guard = none) (m x v : Operand) (t e : TypeId) (hop : o.op = Op.mapUpdate t m x v) (ht : Try.prog.underlying t = some (.map 3 e))
    (b n sz : Nat) (z : Value) (f : Int → Option Value) (hm : a.eval m = .map (some b)) (h : MapV w b n sz z f) (hn : n < 4096) (y : Int) (u : Value) (hx : a.eval x = .int .i64 y) (hv : a.eval v = u) (hy : i64p y)
    (hK : ∀ w', MapV w' b (n + 1) (if (f y).isSome then sz else sz + 1) z (fun t => if t = y then some u else f t) → w.grownBy w' (some b) → wpListIn F nF Try.prog ops Q rest (a.put o.dst undef) w') : wpListIn F nF Try.prog ops Q (o :: rest) a w := by
  refine wpListIn_plain hg fun K' hK' => ?_
  obtain ⟨w', hrun, r1, r2⟩ := h.update ht hn hy u
  unfold Oper.wpIn
  refine ⟨by simp [Oper.about, hop], ?_⟩
  rw [Oper.semAt_plain F _ _ (by rw [hop]; intro c hc'; cases hc')]
  simp [execOp, hop, hm, hx, hv, hrun, Result.andThen]
  exact hK' _ _ (hK w' r1 r2)
theorem wpList_putM {w : World} {ops : Array Oper} {rest : List Oper} {o : Oper} {a : Act} {Q : Exit → Act → World → Prop} (hg : o.guard = none) (m x v : Operand) (t e : TypeId) (hop : o.op = Op.mapUpdate t m x v) (ht : Try.prog.underlying t = some (.map 3 e))
    (b n sz : Nat) (z : Value) (f : Int → Option Value) (hm : a.eval m = .map (some b)) (h : MapV w b n sz z f) (hn : n < 4096) (y : Int) (u : Value) (hx : a.eval x = .int .i64 y) (hv : a.eval v = u) (hy : i64p y)
    (hK : ∀ w', MapV w' b (n + 1) (if (f y).isSome then sz else sz + 1) z (fun t => if t = y then some u else f t) → w.grownBy w' (some b) → wpList Try.prog ops Q rest (a.put o.dst undef) w') : wpList Try.prog ops Q (o :: rest) a w := by
  refine wpList_plain hg fun K' hK' => ?_
  obtain ⟨w', hrun, r1, r2⟩ := h.update ht hn hy u
  unfold Oper.wp
  simp [execOp, hop, hm, hx, hv, hrun, Result.andThen]
  exact hK' _ _ (hK w' r1 r2)
/-- a map of steps. -/
def zeroS : Value := .agg #[.int .i64 0, .int .i64 0, .int .i64 0, .bool false]
def MapS (W : World) (b n : Nat) (f : Int → Option Sp) : Prop := ∃ sz, MapV W b n sz zeroS (fun x => (f x).map (fun s => .agg (stepA s)))
theorem MapS.lt {W : World} {b n : Nat} {f : Int → Option Sp} (h : MapS W b n f) : b < W.heap.size := by obtain ⟨_, h⟩ := h; exact h.lt
theorem mapS_made (W : World) : MapS (W.alloc (.map #[] 0)) W.heap.size 0 (fun _ => none) := ⟨0, mapV_made W zeroS⟩
theorem MapS.keep {W W' : World} {b n B : Nat} {f : Int → Option Sp} (h : MapS W b n f) (hb : Below B W W') (hB : b < B) : MapS W' b n f := by obtain ⟨sz, h⟩ := h; exact ⟨sz, h.keep hb hB⟩
theorem MapS.kept {W W' : World} {b n : Nat} {row : Option Nat} {f : Int → Option Sp} (h : MapS W b n f) (hg : W.grownBy W' row) (hne : some b ≠ row) : MapS W' b n f := by obtain ⟨sz, h⟩ := h; exact ⟨sz, h.kept hg hne⟩
theorem MapS.alloc {W : World} {b n : Nat} {f : Int → Option Sp} (h : MapS W b n f) (o : Obj) : MapS (W.alloc o) b n f := by obtain ⟨sz, h⟩ := h; exact ⟨sz, h.alloc o⟩
theorem MapS.congr {W : World} {b n : Nat} {f g : Int → Option Sp} (h : MapS W b n f) (e : ∀ x, f x = g x) : MapS W b n g := by
  obtain rfl : f = g := funext e
  exact h
theorem MapS.mono {W : World} {b n m : Nat} {f : Int → Option Sp} (h : MapS W b n f) (hm : n ≤ m) : MapS W b m f := by
  obtain ⟨sz, D, ho, hr⟩ := h
  exact ⟨sz, D, ho.mono hm, hr⟩
theorem zero_step (w : World) : (zeroValue 39).run Try.prog w = .ok zeroS w := by
  have h : (Try.prog.info? 39).map (fun i => (i.zero, i.size)) = some (some zeroS, 4) := by kernel_rfl
  exact (zero_of_info h).1 w
theorem MapS.look {W : World} {b n : Nat} {f : Int → Option Sp} (h : MapS W b n f) {x : Int} (hx : i64p x) :
    (Instr.lookup 55 (.map (some b)) (.int .i64 x) true).run Try.prog W = .ok (.tuple #[.agg (stepA ((f x).getD zero)), .bool (f x).isSome]) W := by
  obtain ⟨sz, h⟩ := h
  rw [h.look Try.underlying55 (zero_step W) hx]
  cases f x <;> rfl
def RiseRel (f : Int → Option Sp) (w : World) (v i : Value) (wr : World) : Prop := ∃ k : Nat, k ≤ 64 ∧ i = .int .i64 k ∧ OwnVars wr w.heap.size 39 v (rise f k) ∧ Below w.heap.size w wr
/-- a row that reads so, and nothing that was there is changed. -/
def SlPost (L : List Sp) (w : World) (e : Ending) (w' : World) : Prop := ∃ T d, e = .returned (.slice T L.length d) ∧ SlAt w' T d L ∧ Below w.heap.size w w'
set_option maxHeartbeats 2000000 in
set_option maxRecDepth 100000 in
theorem rising_any (b n : Nat) (f : Int → Option Sp) (w : World) (h : MapS w b n f) (hok : ∀ x s, f x = some s → s.ok) :
    Calls Try.prog 22 #[.map (some b)] w (SlPost (rise f 64) w) := by
  have H := Lib.hid h
  have HOK := Lib.hid hok
  clear h hok
  go_enter Try.func22, Try.ntmps22
  go_wp2
  go_loopw [3, 7] (RiseRel f w) (fun _ i _ => 64 - (intOf i).toNat)
  case atStart => exact ⟨0, Nat.zero_le _, rfl, own_nil _ _ _, Below.refl _ _⟩
  case round =>
    obtain ⟨k, hk, rfl, ho, hb⟩ := hrel
    have HO := Lib.hid ho
    have HB := Lib.hid hb
    clear ho hb
    by_cases hlt : k < 64
    · have hlt' : (k : Int) < 64 := by omega
      have hm := (H.out.keep HB.out H.out.lt).look (x := ((k : Nat) : Int)) ⟨by omega, by omega⟩
      cases hf : f ((k : Nat) : Int) with
      | none =>
        rw [hf] at hm
        simp only [Option.getD_none, Option.isSome_none, stepA, zero] at hm
        have HF := Lib.hid hf
        clear hf
        go_wp2
        go_round
        case rel => exact ⟨k + 1, by omega, by go_num, by rw [rise_succ_none HF.out]; exact HO.out.alloc _, HB.out.alloc HB.out.size _⟩
        case measure => simp [intOf]; omega
      | some s =>
        rw [hf] at hm
        simp only [Option.getD_some, Option.isSome_some, stepA] at hm
        have HF := Lib.hid hf
        clear hf
        have HX := Lib.hid (stepAt_new wr s 39)
        have d0 := HX.out.c0
        have d1 := HX.out.c1
        have d2 := HX.out.c2
        have d3 := HX.out.c3
        unfold stepA at d0 d1 d2 d3
        have HN := Lib.hid (new_vars' (w := wr.alloc (.cells (stepA s) 39)) (size_new _ _) s 39 (HOK.out _ _ HF.out))
        unfold stepA at HN
        go_wp2_with (at_builtin; refine append_vars lvt rfl _ _ rfl rfl ((HO.out.alloc _).alloc _) _ _ [s] rfl rfl HN.out ?c1 ?c2 ?_)
        case c1 => have := rise_len f k; simp; omega
        case c2 => have := HB.out.size; simp; omega
        intro v' w2 ho2 hb2 hs2
        have HO2 := Lib.hid ho2
        have HB2 := Lib.hid (((HB.out.alloc HB.out.size _).alloc (by have := HB.out.size; simp; omega) _).trans hb2)
        clear ho2 hb2
        go_wp2
        go_round
        case rel => exact ⟨k + 1, by omega, by go_num, by rw [rise_succ_some HF.out]; exact HO2.out, HB2.out⟩
        case measure => simp [intOf]; omega
    · obtain rfl : k = 64 := by omega
      go_wp2
      have ho := HO.out
      obtain ⟨T, d, rfl, hv⟩ := ho.sl
      go_ret
      exact ⟨_, _, rfl, hv, HB.out⟩
end Go.Proofs.Ytgnajfijecmecaa.Tx
