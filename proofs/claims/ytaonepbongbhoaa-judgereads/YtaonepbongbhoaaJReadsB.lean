/-
  JudgeReads: rows that one owns; the state amid the loop over the events; one more at a key; a value put into an event.
-/
import Derived.Test.YtaonepbongbhoaaJMapI
import Derived.Test.YtaonepbongbhoaaJdRd2
import Derived.Test.YtaonepbongbhoaaKQ
import Derived.Test.YtaonepbongbhoaaKC
namespace Go.Proofs.Ytaonepbongbhoaa.Jd
open Go.RowKit
open Az
open Hi (Ev Cr encE crs crL EvArg atE evA ThRel vtE ev_info)
open Tx (i64p)
def RowOwn (w : World) (L : List Ev) (r : Ending) (w' : World) : Prop := ∃ B d, r = .returned (.slice B L.length d) ∧ Rn.Own encE w' w.heap.size 53 (.slice B L.length d) L ∧ Below w.heap.size w w'
set_option maxHeartbeats 1000000 in
theorem theirs_own (A : Option Addr) (c : Nat) (L : List Ev) (w : World) (h : Rn.At encE w A L) (hl : L.length ≤ 300) :
    Calls Try.prog 7 #[.slice A L.length c] w (RowOwn w L) := by
  have H := Lib.hid h
  clear h
  have hN : (L.length : Int) ≤ 300 := by omega
  go_enter Try.func7, Try.ntmps7
  go_wp2
  go_loopw [3, 8] (ThRel L w) (fun _ i _ => L.length - (intOf i).toNat)
  case atStart => exact ⟨0, Nat.zero_le _, rfl, Rn.Own.nil _ _ _, Below.refl _ _⟩
  case round =>
    obtain ⟨k, hk, rfl, ho, hb⟩ := hrel
    have HO := Lib.hid ho
    have HB := Lib.hid hb
    clear ho hb
    by_cases hlt : k < L.length
    · have he : L[k]? = some L[k] := List.getElem?_eq_getElem hlt
      generalize L[k] = e at he
      obtain ⟨ad, rfl, c0, c1, c2, c3, c4⟩ := atE (H.out.below HB.out (Nat.le_refl _)) he
      have HV := Lib.hid he
      have HA := Lib.hid (Rn.At.new (E := encE) (wr.alloc (.cells (evA e) 57)) e (evA e) rfl 53 (g := wr.heap.size + 1) (by simp))
      clear he
      have hlt' : (k : Int) < (L.length : Int) := by omega
      unfold evA at HA
      go_wp2_with (at_builtin; refine Rn.append_row encE vtE rfl _ _ rfl rfl ((HO.out.alloc _).alloc _) _ _ [e] rfl rfl HA.out ?c1 ?c2 ?_)
      case c1 => simp; omega
      case c2 => have := HB.out.size; simp; omega
      intro v' w1 ho1 hb1 hs1
      have HO1 := Lib.hid ho1
      have HB1 := Lib.hid (((HB.out.alloc HB.out.size _).alloc (by have := HB.out.size; simp; omega) _).trans hb1)
      clear ho1 hb1
      go_wp2
      go_round
      case rel => exact ⟨k + 1, by omega, by go_num, by rw [Rn.step_take HV.out]; exact HO1.out, HB1.out⟩
      case measure => simp [intOf]; omega
    · have hlt' : ¬ (k : Int) < (L.length : Int) := by omega
      go_wp2
      go_ret
      have := HO.out
      rw [List.take_of_length_le (by omega)] at this
      obtain ⟨B, d, e1, e2, e3, e4, _⟩ := this.slice
      subst e1
      exact ⟨B, d, rfl, this, HB.out⟩
/-- what the loop has behind k events: b is the map's block. -/
def RdRel (L : List Ev) (w3 : World) (b : Nat) (v i : Value) (W : World) : Prop :=
  ∃ (k : Nat) (f : Int → Int → Int) (R : List Int), k ≤ L.length ∧ i = .int .i64 k ∧ Aside (MapJ W b k f) ∧ Aside (Tch L k f) ∧ Aside (Rds L k R) ∧ Aside (Rn.Own Hi.encI W (b + 1) 3 v R) ∧ Aside (Below b w3 W) ∧ Aside (b + 1 ≤ W.heap.size)
/-- amid a round: the box of the key is block q. -/
structure KS (w3 : World) (b n : Nat) (f : Int → Int → Int) (id x z : Int) (p : Nat) (kd : Int) (q : Nat) (v : Value) (R : List Int) (W : World) : Prop where
  map : MapJ W b n f
  c0 : W.cell? ⟨q, 0, none⟩ = some (.int .i64 id)
  c1 : W.cell? ⟨q, 1, none⟩ = some (.int .i64 x)
  own : Rn.Own Hi.encI W (b + 1) 3 v R
  bel : Below b w3 W
  le : b + 1 ≤ W.heap.size
  fz : f id x = z
  nb : v.ownBlock ≠ some q
  bq : b < q
  e0 : W.cell? ⟨p, 0, none⟩ = some (.int .i64 kd)
  nbp : v.ownBlock ≠ some p
  bp : b < p
section
variable {w3 : World} {b n : Nat} {f : Int → Int → Int} {id x z : Int} {p : Nat} {kd : Int} {q : Nat} {v : Value} {R : List Int} {W W' : World}
theorem KS.new {k : Nat} {wr : World} (hm : MapJ wr b k f) (ho : Rn.Own Hi.encI wr (b + 1) 3 v R) (hb : Below b w3 wr) (hle : b + 1 ≤ wr.heap.size) (hz : f id x = z) (kd vk vn : Int) :
    KS w3 b k f id x z wr.heap.size kd (wr.heap.size + 1) v R ((wr.alloc (.cells #[.int .i64 kd, .int .i64 id, .int .i64 x, .int .i64 vk, .int .i64 vn] 53)).alloc (.cells #[.int .i64 id, .int .i64 x] 54)) := by
  generalize hc : (#[.int .i64 kd, .int .i64 id, .int .i64 x, .int .i64 vk, .int .i64 vn] : Array Value) = c
  have h1 := Rn.below_new wr (.cells c 53)
  have h2 := Rn.below_new (wr.alloc (.cells c 53)) (.cells #[.int .i64 id, .int .i64 x] 54)
  have hh : ((wr.alloc (.cells c 53)).alloc (.cells #[.int .i64 id, .int .i64 x] 54)).heap[wr.heap.size + 1]? = some (.cells #[.int .i64 id, .int .i64 x] 54 (0, 0)) := by
    have := heap_alloc_new (wr.alloc (.cells c 53)) (.cells #[.int .i64 id, .int .i64 x] 54)
    rwa [Rn.size_new] at this
  refine ⟨(hm.below h1).below h2, cell_of_row _ _ 0 _ _ (0, 0) hh, cell_of_row _ _ 1 _ _ (0, 0) hh, (ho.below h1 (Nat.le_refl _)).below h2 (Nat.le_refl _), ?_, ?_, hz, ?_, by omega, ?_, ?_, by omega⟩
  · exact (hb.alloc (by omega) _).alloc (by simp; omega) _
  · simp; omega
  · intro e
    have := (World.ownsRow.lt ho _ e).2
    omega
  · have h3 : (wr.alloc (.cells c 53)).heap[wr.heap.size]? = some (.cells c 53 (0, 0)) := heap_alloc_new wr (.cells c 53)
    have h4 := (h2.block wr.heap.size (by rw [Rn.size_new]; omega)).trans h3
    subst hc
    exact cell_of_row _ _ 0 _ _ (0, 0) h4
  · intro e
    have := (World.ownsRow.lt ho _ e).2
    omega
theorem KS.drew (h : KS w3 b n f id x z p kd q v R W) : KS w3 b n f id x z p kd q v R W.drew :=
  ⟨h.map.other rfl, h.c0, h.c1, h.own.below (Below.refl _ _).drew (Nat.le_refl _), h.bel.drew, h.le, h.fz, h.nb, h.bq, h.e0, h.nbp, h.bp⟩
theorem KS.more {m : Nat} (h : KS w3 b n f id x z p kd q v R W) (hm : n ≤ m) : KS w3 b m f id x z p kd q v R W := ⟨h.map.mono hm, h.c0, h.c1, h.own, h.bel, h.le, h.fz, h.nb, h.bq, h.e0, h.nbp, h.bp⟩
theorem KS.look (h : KS w3 b n f id x z p kd q v R W) (hi : i64p id) (hx : i64p x) : (Instr.lookup 51 (.map (some b)) (.agg #[.int .i64 id, .int .i64 x]) false).run Try.prog W = .ok (.int .i64 z) W := by
  have := h.map.look hi hx
  rw [h.fz] at this
  exact this
theorem own_off (h : Rn.Own Hi.encI W (b + 1) 3 v R) : v.ownBlock = none ∨ v.ownBlock ≠ some b := by
  right
  intro e
  have := (World.ownsRow.lt h _ e).1
  omega
/-- the map was written. -/
theorem KS.ent {m : Nat} (h : KS w3 b n f id x z p kd q v R W) (hm : MapJ W' b m f) (hg : W.grownBy W' (some b)) : KS w3 b m f id x z p kd q v R W' := by
  have hq : W'.heap[q]? = W.heap[q]? := hg.block q (Rn.cell_lt h.c0) (fun e => by have := h.bq; injection e with e; omega)
  have hp : W'.heap[p]? = W.heap[p]? := hg.block p (Rn.cell_lt h.e0) (fun e => by have := h.bp; injection e with e; omega)
  refine ⟨hm, (World.cell?_of_block (a := ⟨q, 0, none⟩) hq).trans h.c0, (World.cell?_of_block (a := ⟨q, 1, none⟩) hq).trans h.c1, World.ownsRow.kept h.own hg (own_off h.own), h.bel.grown hg (by have := h.le; omega) (fun k e => by injection e with e; omega), Nat.le_trans h.le hg.size, h.fz, h.nb, h.bq, (World.cell?_of_block (a := ⟨p, 0, none⟩) hp).trans h.e0, h.nbp, h.bp⟩
theorem KS.done (h : KS w3 b n f id x z p kd q v R W) (hg : W.grownBy W' (some b)) : Rn.Own Hi.encI W' (b + 1) 3 v R ∧ Below b w3 W' ∧ b + 1 ≤ W'.heap.size ∧ W'.cell? ⟨p, 0, none⟩ = some (.int .i64 kd) :=
  ⟨World.ownsRow.kept h.own hg (own_off h.own), h.bel.grown hg (by have := h.le; omega) (fun k e => by injection e with e; omega), Nat.le_trans h.le hg.size,
    (World.cell?_of_block (a := ⟨p, 0, none⟩) (hg.block p (Rn.cell_lt h.e0) (fun e => by have := h.bp; injection e with e; omega))).trans h.e0⟩
/-- one more read. -/
theorem KS.app {v' : Value} {R' : List Int} {o : Obj} (h : KS w3 b n f id x z p kd q v R W) (ho : Rn.Own Hi.encI W' (b + 1) 3 v' R') (hg : (W.alloc o).grownBy W' v.ownBlock) (hs : ∃ m, W.heap.size ≤ m ∧ (v'.ownBlock = v.ownBlock ∨ v'.ownBlock = some m)) :
    KS w3 b n f id x z p kd q v' R' W' := by
  have hl := h.le
  have hqs : q < W.heap.size := Rn.cell_lt h.c0
  have ha := Rn.below_new W o
  have hsz := Rn.size_new W o
  have hq : W'.heap[q]? = W.heap[q]? := (hg.block q (by omega) (fun e => h.nb e.symm)).trans (ha.block q hqs)
  have hps : p < W.heap.size := Rn.cell_lt h.e0
  have hp : W'.heap[p]? = W.heap[p]? := (hg.block p (by omega) (fun e => h.nbp e.symm)).trans (ha.block p hps)
  have hbb : W'.heap[b]? = W.heap[b]? := (hg.block b (by omega) (fun e => by
    rcases own_off h.own with h1 | h1
    · rw [h1] at e; cases e
    · exact h1 e.symm)).trans (ha.block b (by omega))
  refine ⟨h.map.other hbb, (World.cell?_of_block (a := ⟨q, 0, none⟩) hq).trans h.c0, (World.cell?_of_block (a := ⟨q, 1, none⟩) hq).trans h.c1, ho, (h.bel.trans (ha.mono (by omega))).grown hg (by omega) (fun k e => ?_), ?_, h.fz, ?_, h.bq, (World.cell?_of_block (a := ⟨p, 0, none⟩) hp).trans h.e0, ?_, h.bp⟩
  · have := (World.ownsRow.lt h.own _ e).1
    omega
  · have := hg.size; omega
  · intro e
    obtain ⟨m, hm, h1 | h1⟩ := hs
    · exact h.nb (h1.symm.trans e)
    · rw [h1] at e; injection e with e; omega
  · intro e
    obtain ⟨m, hm, h1 | h1⟩ := hs
    · exact h.nbp (h1.symm.trans e)
    · rw [h1] at e; injection e with e; omega
end
theorem step_entry {w w' : World} {ops : Array Oper} {o : Oper} {a : Act} {K : Act → World → Prop} {Q : Exit → Act → World → Prop} {F : Prop} (hgd : o.guard = none) (m x : Operand) (hop : o.op = Op.mapEntry 51 m x)
    (b : Nat) (k u : Value) (hm : a.eval m = .map (some b)) (hx : a.eval x = k) (hr : (Instr.mapEntry 51 (.map (some b)) k).run Try.prog w = .ok u w')
    (hK : K (a.put o.dst u) w') : if Region.wanted o (yielded ops a.tmps) = true then Oper.wp Try.prog o a w K Q else F := by
  have hw : Region.wanted o (yielded ops a.tmps) = true := by simp [Region.wanted, hgd]
  rw [if_pos hw]
  unfold Oper.wp
  simp [execOp, hop, hm, hx, hr, Result.andThen]
  exact hK
theorem step_estore {w w' : World} {ops : Array Oper} {o : Oper} {a : Act} {K : Act → World → Prop} {Q : Exit → Act → World → Prop} {F : Prop} (hgd : o.guard = none) (m s x : Operand) (hop : o.op = Op.entryStore 51 m s x)
    (b : Nat) (st u : Value) (hm : a.eval m = .map (some b)) (hs : a.eval s = st) (hx : a.eval x = u) (hr : (Instr.entryStore 51 (.map (some b)) st u).run Try.prog w = .ok () w')
    (hK : K (a.put o.dst undef) w') : if Region.wanted o (yielded ops a.tmps) = true then Oper.wp Try.prog o a w K Q else F := by
  have hw : Region.wanted o (yielded ops a.tmps) = true := by simp [Region.wanted, hgd]
  rw [if_pos hw]
  unfold Oper.wp
  simp [execOp, hop, hm, hs, hx, hr, Result.andThen]
  exact hK
/-- another value in an event. -/
theorem own_val {W : World} {base g m c : Nat} {L : List Ev} {j : Nat} {e : Ev} (h : Rn.Own encE W base 53 (.slice (some ⟨g, 0, none⟩) m c) L) (he : L[j]? = some e) (k n : Int) :
    Rn.Own encE (W.setCells g (j * 5 + 3) [.int .i64 k, .int .i64 n]) base 53 (.slice (some ⟨g, 0, none⟩) m c) (L.set j ⟨e.kd, e.id, e.x, k, n⟩) ∧ Below g W (W.setCells g (j * 5 + 3) [.int .i64 k, .int .i64 n]) ∧ W.there g (j * 5 + 3) 2 := by
  have hj : j < L.length := (List.getElem?_eq_some_iff.1 he).1
  have p0 := h.put he 3 (by decide) (.int .i64 k) (v' := ⟨e.kd, e.id, e.x, k, e.n⟩) rfl
  have p1 := p0.put (j := j) (v := ⟨e.kd, e.id, e.x, k, e.n⟩) (by rw [List.getElem?_set_self hj]) 4 (by decide) (.int .i64 n) (v' := ⟨e.kd, e.id, e.x, k, n⟩) rfl
  rw [List.set_set] at p1
  refine ⟨p1, ((Below.refl g W).setCell (Nat.le_refl _) _).setCell (Nat.le_refl _) _, fun i hi => ?_⟩
  have hc := h.get he (3 + i) (show 3 + i < 5 by omega)
  have hc' : W.cell? ⟨g, j * 5 + 3 + i, none⟩ = (encE.cells e)[3 + i]? := by rw [Nat.add_assoc]; exact hc
  refine ⟨?_, h.free _⟩
  rw [hc', List.getElem?_eq_getElem (by rw [encE.len]; show 3 + i < 5; omega)]; rfl
theorem val_size' : (Try.prog.info? 46).map (·.size) = some 2 := by kernel_rfl
theorem val_one (k n : Int) : (#[.int .i64 k, .int .i64 n] : Array Value).all (·.oneCell') = true := by
  rw [Array.all_eq_true']
  intro u hu
  simp at hu
  rcases hu with rfl | rfl <;> rfl
theorem wrap_one {z : Int} (h0 : 0 ≤ z) (h1 : z ≤ 100) : IntKind.i64.wrap (z + 1) = z + 1 := by
  unfold IntKind.wrap
  simp [IntKind.bits, IntKind.signed]
  omega
/-- so much more is another number, also round the end. -/
theorem more_other {n : Int} (h : i64p n) : IntKind.i64.wrap (n + 1099511627776) ≠ n ∧ i64p (IntKind.i64.wrap (n + 1099511627776)) := by
  unfold i64p at h ⊢
  unfold IntKind.wrap
  simp [IntKind.bits, IntKind.signed]
  omega
end Go.Proofs.Ytaonepbongbhoaa.Jd
