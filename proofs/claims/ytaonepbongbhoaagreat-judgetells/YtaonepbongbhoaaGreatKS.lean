/-
  What the document's Entries is made of: the step of an event, an entry's box with its two rows that grow.
  The contract of the document's Entries.
  The contract of the document's Spans; rows of integers compared.
-/
import Derived.Test.YtaonepbongbhoaaGreatKR
import Derived.Test.YtaonepbongbhoaaGreatKC
import Derived.Test.YtaonepbongbhoaaGreatKB
import Derived.Deep.CutRange
import Derived.Deep.QuietTactic
import Derived.BigQuiet
namespace Go.Proofs.YtaonepbongbhoaaGreat.Hi
open Go.RowKit
open Tx (i64p Sp SlAt)
open Rp (Ent Xc encX OwnI ItAt RdX Off BoxX)
abbrev encS : Rn.Enc Sp where
  n := 4
  pos := by decide
  cells s := Tx.cellsOf s
  len _ := rfl
  one v u hu := by simp [Tx.cellsOf] at hu; rcases hu with rfl | rfl | rfl | rfl <;> rfl
theorem vtS : Rn.VT encS 70 117 := by
  obtain ⟨i0, hi, hz0, hz1, hz2⟩ := info_parts Tx.rstep_info
  exact ⟨Tryz.underlying70, i0, _, hi, hz0, hz1, by rw [hz2]; decide, rfl⟩
theorem flat_S (l : List Sp) : Rn.flat encS l = Tx.flat l := rfl
theorem own_sl {W : World} {base : Nat} {A : Option Addr} {n c : Nat} {l : List Sp} (h : Rn.Own encS W base 117 (.slice A n c) l) (hok : ∀ s ∈ l, s.ok) : SlAt W A c l ∧ Tx.Fr base A := by
  rcases h.2 with ⟨e, h0⟩ | ⟨g, cap, cur, e, hb, hg, hn, hm, hs, ht⟩
  · obtain ⟨rfl, _, rfl⟩ := Value.slice.inj e
    exact ⟨⟨⟨fun hl => by omega, hok⟩, by omega, by unfold maxLen; omega⟩, fun ad e => by cases e⟩
  · obtain ⟨rfl, _, rfl⟩ := Value.slice.inj e
    exact ⟨⟨⟨fun _ => ⟨_, rfl, World.ownsRow.cells h rfl⟩, hok⟩, hn, hm⟩, fun ad e => by cases e; exact hb⟩
def stA (s : Sp) : Array Value := #[.int .i64 s.x, .int .i64 s.k, .int .i64 s.n, .bool s.wr]
theorem stA_one (s : Sp) : (stA s).all (·.oneCell') = true := by
  rw [Array.all_eq_true']
  intro u hu
  simp [stA] at hu
  rcases hu with rfl | rfl | rfl | rfl <;> rfl
theorem rstep_size (s : Sp) : (Tryz.prog.info? 117).map (·.size) = some (stA s).size := by
  obtain ⟨i0, hi, hz0, hz1, hz2⟩ := info_parts Tx.rstep_info
  rw [hi, Option.map_some, hz1]; rfl
set_option maxHeartbeats 1000000 in
theorem step_r (e : Ev) (b : Bool) (hb : (e.kd == 2) = b) (w : World) :
    Calls Tryz.prog 65 #[.agg (evA e)] w fun r w' => r = .returned (.agg (stA ⟨e.x, e.k, e.n, b⟩)) ∧ Below w.heap.size w w' := by
  unfold evA
  have h2 : ((w.alloc (.cells #[.int .i64 e.kd, .int .i64 e.id, .int .i64 e.x, .int .i64 e.k, .int .i64 e.n] 41)).alloc (.cells #[.int .i64 0, .int .i64 0, .int .i64 0, .bool false] 117)).heap[w.heap.size + 1]? = some (.cells #[.int .i64 0, .int .i64 0, .int .i64 0, .bool false] 117 (0, 0)) := heap_alloc2_new _ _ _
  have hb2 : Below w.heap.size w ((w.alloc (.cells #[.int .i64 e.kd, .int .i64 e.id, .int .i64 e.x, .int .i64 e.k, .int .i64 e.n] 41)).alloc (.cells #[.int .i64 0, .int .i64 0, .int .i64 0, .bool false] 117)) := (Rn.below_new _ _).alloc (by simp) _
  have H2 := Lib.hid h2
  have HB2 := Lib.hid hb2
  clear h2 hb2
  go_enter Tryz.func65, Tryz.ntmps65
  go_wp2_with (refine wpList_store_row rfl 117 (.tmp 2) (.tmp 10) rfl (w.heap.size + 1) (stA ⟨e.x, e.k, e.n, b⟩) rfl rfl 117 _ H2.out (rstep_size _) rfl (stA_one _) ?_)
  refine bodyPost_ret (results_cell_row rfl _ _ (w.heap.size + 1) 117 _ (0, 0) _ rfl (setRow_heap _ _ _ _ _ _ H2.out) Tryz.underlying117 rfl (rstep_size _)) rfl ⟨rfl, ?_⟩
  exact setRow_below HB2.out (by omega)
/- an entry as it grows -/
theorem grown_set (V : World) (g i : Nat) (u : Value) : V.grownBy (V.setCell ⟨g, i, none⟩ u) (some g) := ⟨rfl, rfl, rfl, by simp [World.setCell], fun k _ hne => Below.heap_setCell _ _ _ _ (fun e => hne (by rw [e]))⟩
structure NE (wr : World) (L : List Ev) (q r0 : Nat) (x : Xc) (W : World) : Prop where
  bel : Below wr.heap.size wr W
  box : BoxX W wr.heap.size 72 x
  mt : W.heap[q]? = some (.cells (metA L) 90 (0, 0))
  rd : Rn.Own encS W r0 117 (.slice x.A x.e.rd.length x.c) x.e.rd
  wt : Rn.Own encS W r0 117 (.slice x.B x.e.wt.length x.d) x.e.wt
  ne : ∀ a, (Value.slice x.A x.e.rd.length x.c).ownBlock = some a → (Value.slice x.B x.e.wt.length x.d).ownBlock ≠ some a
  lt : wr.heap.size < q ∧ q < r0 ∧ r0 ≤ W.heap.size
section
variable {wr : World} {L : List Ev} {q r0 : Nat} {x : Xc}
theorem NE.below {W W' : World} (h : NE wr L q r0 x W) (hb : Below W.heap.size W W') : NE wr L q r0 x W' :=
  ⟨h.bel.trans (hb.mono h.bel.size), h.box.below hb h.box.lt, (hb.block q (Array.getElem?_eq_some_iff.1 h.mt).1).trans h.mt, h.rd.below hb (Nat.le_refl _), h.wt.below hb (Nat.le_refl _), h.ne, h.lt.1, h.lt.2.1, Nat.le_trans h.lt.2.2 hb.size⟩
theorem NE.drew {W : World} (h : NE wr L q r0 x W) : NE wr L q r0 x W.drew := h.below (Below.refl _ _).drew
theorem box_set {W : World} {b : Nat} {t : TypeId} {x y : Xc} (h : BoxX W b t x) (i : Nat) (u : Value) (he : (Rp.entA x).setIfInBounds i u = Rp.entA y) : BoxX (W.setCell ⟨b, i, none⟩ u) b t y := ⟨by rw [heap_set h.is, he]⟩
theorem NE.addR {W w5 : World} {v' : Value} {s : Sp} (h : NE wr L q r0 x W) (ho : Rn.Own encS w5 r0 117 v' (x.e.rd ++ [s])) (hg : W.grownBy w5 (Value.slice x.A x.e.rd.length x.c).ownBlock) (hl : v'.ownBlock = (Value.slice x.A x.e.rd.length x.c).ownBlock ∨ v'.ownBlock = some W.heap.size) :
    ∃ A' c', v' = .slice A' (x.e.rd ++ [s]).length c' ∧ NE wr L q r0 ⟨⟨x.e.id, x.e.com, x.e.ovr, x.e.rd ++ [s], x.e.wt⟩, A', c', x.B, x.d⟩ (w5.setCell ⟨wr.heap.size, 3, none⟩ v') ∧ w5.cell? ⟨wr.heap.size, 3, none⟩ = some (.slice x.A x.e.rd.length x.c) ∧ w5.frozen? ⟨wr.heap.size, 3, none⟩ = false := by
  obtain ⟨A', c', rfl, _⟩ := ho.slice
  have hw1 : Below r0 W w5 := Rp.grown_below h.rd hg h.lt.2.2
  have hbox : BoxX w5 wr.heap.size 72 x := ⟨(hw1.block _ (by have := h.lt; omega)).trans h.box.is⟩
  have hwt : Rn.Own encS w5 r0 117 (.slice x.B x.e.wt.length x.d) x.e.wt := World.ownsRow.kept (row := (Value.slice x.A x.e.rd.length x.c).ownBlock) h.wt hg (by
    cases hB : (Value.slice x.B x.e.wt.length x.d).ownBlock with
    | none => exact .inl rfl
    | some b => exact .inr (fun e => h.ne b e.symm hB))
  have hset := grown_set w5 wr.heap.size 3 (.slice A' (x.e.rd ++ [s]).length c')
  have hlow : ∀ {v : Value} {l : List Sp}, Rn.Own encS w5 r0 117 v l → Rn.Own encS (w5.setCell ⟨wr.heap.size, 3, none⟩ (.slice A' (x.e.rd ++ [s]).length c')) r0 117 v l := fun {v l} hh => World.ownsRow.kept (row := some wr.heap.size) hh hset (by
    cases hv : v.ownBlock with
    | none => exact .inl rfl
    | some b => exact .inr (fun e => by have := (World.ownsRow.lt hh b hv).1; have := h.lt; have := Option.some.inj e; omega))
  refine ⟨A', c', rfl, ⟨?_, ?_, ?_, hlow ho, hlow hwt, ?_, h.lt.1, h.lt.2.1, ?_⟩, hbox.c3, hbox.free 3⟩
  · exact (h.bel.trans (hw1.mono (by have := h.lt; omega))).setCell (by simp) _
  · exact box_set hbox 3 _ rfl
  · rw [Below.heap_setCell _ _ _ _ (by have := h.lt; simp; omega)]
    exact (hw1.block q h.lt.2.1).trans h.mt
  · intro a ha hb
    rcases hl with hl | hl
    · rw [hl] at ha; exact h.ne a ha hb
    · rw [hl] at ha
      have := (World.ownsRow.lt h.wt a hb).2
      have := Option.some.inj ha
      omega
  · have := hw1.size; have := h.lt.2.2; simp [World.setCell]; omega
theorem NE.addW {W w5 : World} {v' : Value} {s : Sp} (h : NE wr L q r0 x W) (ho : Rn.Own encS w5 r0 117 v' (x.e.wt ++ [s])) (hg : W.grownBy w5 (Value.slice x.B x.e.wt.length x.d).ownBlock) (hl : v'.ownBlock = (Value.slice x.B x.e.wt.length x.d).ownBlock ∨ v'.ownBlock = some W.heap.size) :
    ∃ B' d', v' = .slice B' (x.e.wt ++ [s]).length d' ∧ NE wr L q r0 ⟨⟨x.e.id, x.e.com, x.e.ovr, x.e.rd, x.e.wt ++ [s]⟩, x.A, x.c, B', d'⟩ (w5.setCell ⟨wr.heap.size, 4, none⟩ v') ∧ w5.cell? ⟨wr.heap.size, 4, none⟩ = some (.slice x.B x.e.wt.length x.d) ∧ w5.frozen? ⟨wr.heap.size, 4, none⟩ = false := by
  obtain ⟨B', d', rfl, _⟩ := ho.slice
  have hw1 : Below r0 W w5 := Rp.grown_below h.wt hg h.lt.2.2
  have hbox : BoxX w5 wr.heap.size 72 x := ⟨(hw1.block _ (by have := h.lt; omega)).trans h.box.is⟩
  have hrd : Rn.Own encS w5 r0 117 (.slice x.A x.e.rd.length x.c) x.e.rd := World.ownsRow.kept (row := (Value.slice x.B x.e.wt.length x.d).ownBlock) h.rd hg (by
    cases hA : (Value.slice x.A x.e.rd.length x.c).ownBlock with
    | none => exact .inl rfl
    | some a => exact .inr (fun e => h.ne a hA e.symm))
  have hset := grown_set w5 wr.heap.size 4 (.slice B' (x.e.wt ++ [s]).length d')
  have hlow : ∀ {v : Value} {l : List Sp}, Rn.Own encS w5 r0 117 v l → Rn.Own encS (w5.setCell ⟨wr.heap.size, 4, none⟩ (.slice B' (x.e.wt ++ [s]).length d')) r0 117 v l := fun {v l} hh => World.ownsRow.kept (row := some wr.heap.size) hh hset (by
    cases hv : v.ownBlock with
    | none => exact .inl rfl
    | some b => exact .inr (fun e => by have := (World.ownsRow.lt hh b hv).1; have := h.lt; have := Option.some.inj e; omega))
  refine ⟨B', d', rfl, ⟨?_, ?_, ?_, hlow hrd, hlow ho, ?_, h.lt.1, h.lt.2.1, ?_⟩, hbox.c4, hbox.free 4⟩
  · exact (h.bel.trans (hw1.mono (by have := h.lt; omega))).setCell (by simp) _
  · exact box_set hbox 4 _ rfl
  · rw [Below.heap_setCell _ _ _ _ (by have := h.lt; simp; omega)]
    exact (hw1.block q h.lt.2.1).trans h.mt
  · intro a ha hb
    rcases hl with hl | hl
    · rw [hl] at hb; exact h.ne a ha hb
    · rw [hl] at hb
      have := (World.ownsRow.lt h.rd a ha).2
      have := Option.some.inj hb
      omega
  · have := hw1.size; have := h.lt.2.2; simp [World.setCell]; omega
end
/- what is in them behind so many variables -/
def rdK (L : List Ev) (c : Cr) (k : Nat) : List Sp := Tx.rise (fun x => (c.rd x).map (stOf L x)) k
def wtK (L : List Ev) (c : Cr) (k : Nat) : List Sp := Tx.rise (fun x => if c.com = true then (c.wr x).map (stOf L x) else none) k
def entK (L : List Ev) (i : Nat) (c : Cr) (k : Nat) : Ent := ⟨(i : Int) + 1, c.com, over c, rdK L c k, wtK L c k⟩
theorem wtK_no {L : List Ev} {c : Cr} (h : c.com = false) (k : Nat) : wtK L c k = [] := by
  unfold wtK
  induction k with
  | zero => rfl
  | succ k ih => rw [Tx.rise_succ_none (by simp [h]), ih]
theorem entK_all (L : List Ev) (i : Nat) (c : Cr) : entK L i c 64 = entC L i c := by
  unfold entK entC rdK stepsF
  congr 1
  cases hm : c.com with
  | true =>
    unfold wtK
    rw [if_pos rfl]
    exact Tx.rise_congr fun x _ => by rw [if_pos hm]
  | false => rw [wtK_no hm]; rfl
theorem rd_none {L : List Ev} {c : Cr} {k : Nat} (h : c.rd (k : Int) = none) : rdK L c (k + 1) = rdK L c k := Tx.rise_succ_none (by rw [h]; rfl)
theorem rd_some {L : List Ev} {c : Cr} {k n : Nat} {e : Ev} (h : c.rd (k : Int) = some n) (he : L[n]? = some e) (hx : e.x = (k : Int)) : rdK L c (k + 1) = rdK L c k ++ [⟨e.x, e.k, e.n, e.kd == 2⟩] := Tx.rise_succ_some (by
  rw [h]; unfold stOf
  rw [Option.map_some, he, hx]
  congr 2)
theorem wt_none {L : List Ev} {c : Cr} {k : Nat} (h : (if c.com = true then nI (c.wr (k : Int)) else -1) < 0) : wtK L c (k + 1) = wtK L c k := Tx.rise_succ_none (by
  cases hm : c.com with
  | false => rfl
  | true =>
    rw [hm, if_pos rfl] at h
    cases hw : c.wr (k : Int) with
    | none => rfl
    | some n =>
      rw [hw] at h
      change ((n : Nat) : Int) < 0 at h
      omega)
theorem wt_some {L : List Ev} {c : Cr} {k n : Nat} {e : Ev} (hm : c.com = true) (h : c.wr (k : Int) = some n) (he : L[n]? = some e) (hx : e.x = (k : Int)) : wtK L c (k + 1) = wtK L c k ++ [⟨e.x, e.k, e.n, e.kd == 2⟩] := Tx.rise_succ_some (by
  rw [if_pos hm, h]; unfold stOf
  rw [Option.map_some, he, hx]
  congr 2)
end Go.Proofs.YtaonepbongbhoaaGreat.Hi
namespace Go.Proofs.YtaonepbongbhoaaGreat.Hi
open Go.RowKit
open Tx (i64p Sp SlAt)
open Rp (Ent Xc encX OwnI ItAt RdX Off BoxX)
open Az
theorem step_store_row {w : World} {ops : Array Oper} {op : Oper} {a : Go.Act} {K : Go.Act → World → Prop} {Q : Exit → Go.Act → World → Prop} {E : Prop} (hgd : op.guard = none) (ty : TypeId) (x y : Operand) (ho : op.op = .store ty x y) (hds : op.dst = none)
    (g : Nat) (cs cs0 : Array Value) (t : TypeId) (hx : a.eval x = .pointer (some ⟨g, 0, none⟩)) (hy : a.eval y = .agg cs) (h : w.heap[g]? = some (.cells cs0 t (0, 0))) (hi : (Tryz.prog.info? ty).map (·.size) = some cs.size) (hs : cs0.size = cs.size) (h1 : cs.all (·.oneCell') = true)
    (hK : K a (w.setRow g cs)) : if Region.wanted op (yielded ops a.tmps) = true then Oper.wp Tryz.prog op a w K Q else E := by
  have hw : Region.wanted op (yielded ops a.tmps) = true := by simp [Region.wanted, hgd]
  rw [if_pos hw]
  refine wp_store_row ty x y ho g cs hx hy t _ h hi hs h1 ?_
  rw [hds]; exact hK
theorem step_rv (e : Ev) (b : Bool) (hb : (e.kd == 2) = b) (w : World) :
    Calls Tryz.prog 65 #[.agg (evA e)] w fun r w' => r = .returned (.agg #[.int .i64 e.x, .int .i64 e.k, .int .i64 e.n, .bool b]) ∧ Below w.heap.size w w' := step_r e b hb w
theorem atI {w : World} {A : Option Addr} {X : List Int} (h : Rn.At encI w A X) {j : Nat} {x : Int} (hx : X[j]? = some x) : ∃ ad, A = some ad ∧ w.cell? (ad.add j) = some (.int .i64 x) := by
  obtain ⟨ad, e, hc⟩ := h.get hx
  exact ⟨ad, e, by have := hc 0 _ rfl; simpa using this⟩
theorem at_blk {W : World} {b : Nat} {s : Sp} (h : Rp.Blk W b #[.int .i64 s.x, .int .i64 s.k, .int .i64 s.n, .bool s.wr] 117) : Rn.At encS W (some ⟨b, 0, none⟩) [s] :=
  ⟨fun _ => ⟨_, rfl, fun j u hu => by
    have hadd : (⟨b, 0, none⟩ : Addr).add j = ⟨b, j, none⟩ := by unfold Addr.add; split <;> simp_all
    rw [hadd, cell_of_row _ b j _ 117 (0, 0) h]
    simpa [Rn.flat, Tx.cellsOf] using hu⟩⟩
theorem rent_row (x : Xc) : (Tryz.prog.info? 72).map (·.size) = some (Rp.entA x).size := by
  obtain ⟨i0, hi, hz0, hz1, hz2⟩ := info_parts Rp.rent_info
  rw [hi, Option.map_some, hz1]; rfl
theorem rent_one (x : Xc) : (Rp.entA x).all (·.oneCell') = true := by
  rw [Array.all_eq_true']
  intro u hu
  simp [Rp.entA] at hu
  rcases hu with rfl | rfl | rfl | rfl | rfl <;> rfl
theorem dec_if (b : Bool) (n : Nat) : decide (0 ≤ if b = true then (n : Int) else -1) = b := by
  cases b
  · rfl
  · rw [if_pos rfl, decide_eq_true_eq]; omega
/-- all that lay there. -/
structure B6 (w W : World) : Prop where
  bel : Below w.heap.size w W
theorem B6.below {w W W' : World} (h : B6 w W) (hb : Below W.heap.size W W') : B6 w W' := ⟨h.bel.trans (hb.mono h.bel.size)⟩
theorem B6.drew {w W : World} (h : B6 w W) : B6 w W.drew := h.below (Below.refl _ _).drew
theorem rdK_ok {L : List Ev} {c : Cr} (h : Okc L.length c) (hok : ∀ e ∈ L, e.ok) (k : Nat) : ∀ s ∈ rdK L c k, s.ok := fun s hs => by
  obtain ⟨x, _, hx⟩ := mem_rise_iff.1 hs
  rw [Option.map_eq_some_iff] at hx
  obtain ⟨n, hn, rfl⟩ := hx
  exact steps_ok h.rdL hok hn
theorem wtK_ok {L : List Ev} {c : Cr} (h : Okc L.length c) (hok : ∀ e ∈ L, e.ok) (k : Nat) : ∀ s ∈ wtK L c k, s.ok := fun s hs => by
  obtain ⟨x, _, hx⟩ := mem_rise_iff.1 hs
  split at hx
  · rw [Option.map_eq_some_iff] at hx
    obtain ⟨n, hn, rfl⟩ := hx
    exact steps_ok h.wrL hok hn
  · cases hx
theorem rdK_len (L : List Ev) (c : Cr) (k : Nat) : (rdK L c k).length ≤ k := Tx.rise_len _ _
theorem wtK_len (L : List Ev) (c : Cr) (k : Nat) : (wtK L c k).length ≤ k := Tx.rise_len _ _
theorem own_nil {W : World} {base : Nat} : Rn.Own encS W base 117 (.slice none 0 0) [] := Rn.Own.nil _ _ _
theorem NE.start {wr w6 w7 W : World} {L : List Ev} {q : Nat} {x : Xc} (hx : BoxX w6 wr.heap.size 72 x) (hb : Below wr.heap.size wr w6) (hb7 : Below w6.heap.size w6 w7) (hq : w7.heap.size = q) (hm : W.heap[q]? = some (.cells (metA L) 90 (0, 0))) (hb8 : Below w7.heap.size w7 W)
    (hA : x.A = none) (hB : x.B = none) (hr : x.e.rd = []) (hw : x.e.wt = []) (hc : x.c = 0) (hd : x.d = 0) : NE wr L q (q + 1) x W := by
  have h1 := hx.lt
  have h2 := hb7.size
  have h3 := (Array.getElem?_eq_some_iff.1 hm).1
  have h67 := hb7.trans (hb8.mono h2)
  refine ⟨hb.trans (h67.mono hb.size), hx.below h67 h1, hm, ?_, ?_, ?_, by omega, by omega, by omega⟩
  · rw [hA, hr, hc]; exact own_nil
  · rw [hB, hw, hd]; exact own_nil
  · intro a ha
    rw [hA, hr, hc] at ha
    cases ha
def NxRel (wr : World) (L : List Ev) (q r0 j : Nat) (cr : Cr) (i : Value) (wx : World) : Prop := ∃ (k : Nat) (x : Xc), k ≤ 64 ∧ i = .int .i64 (k : Nat) ∧ x.e = entK L j cr k ∧ NE wr L q r0 x wx
def EoRel (w1 : World) (L : List Ev) (l : List Cr) (v i : Value) (wr : World) : Prop := ∃ (k : Nat) (Y : List Xc), k ≤ l.length ∧ i = .int .i64 (k : Nat) ∧ OwnI 72 wr w1.heap.size v Y ((List.range k).map (entF L l)) ∧ B6 w1 wr
theorem wr_pos {c : Cr} {x : Int} {v : Int} (h : v = if c.com = true then nI (c.wr x) else -1) (hp : 0 ≤ v) : ∃ m : Nat, c.com = true ∧ c.wr x = some m ∧ v = (m : Int) := by
  cases hm : c.com with
  | false => rw [hm] at h; simp at h; omega
  | true =>
    rw [hm, if_pos rfl] at h
    cases hw : c.wr x with
    | none => rw [hw] at h; unfold nI at h; simp at h; omega
    | some m => rw [hw] at h; exact ⟨m, rfl, rfl, h⟩
theorem met_pos {L : List Ev} {x : Nat} (h : met L x = true) : 0 < L.length := by
  unfold met at h
  rcases L with _ | ⟨e, L⟩
  · cases h
  · simp
theorem not_met {L : List Ev} {l : List Cr} (h : Rw L l) {j : Nat} {c : Cr} (hc : l[j]? = some c) {k : Nat} (hm : met L k = false) : c.rd (k : Int) = none ∧ c.wr (k : Int) = none := by
  refine ⟨?_, ?_⟩
  · cases hr : c.rd (k : Int) with
    | none => rfl
    | some n =>
      obtain ⟨e, h1, _, h3⟩ := h.rdE hc hr
      rw [met_at h1 h3] at hm; cases hm
  · cases hr : c.wr (k : Int) with
    | none => rfl
    | some n =>
      obtain ⟨e, h1, _, h3⟩ := h.wrE hc hr
      rw [met_at h1 h3] at hm; cases hm
theorem ent_next {L : List Ev} {j k : Nat} {c : Cr} {x : Ent} {R W : List Sp} (h : x = entK L j c k) (hr : rdK L c (k + 1) = R) (hw : wtK L c (k + 1) = W) : (⟨x.id, x.com, x.ovr, R, W⟩ : Ent) = entK L j c (k + 1) := by
  subst h; unfold entK; rw [hr, hw]
set_option maxRecDepth 100000 in
set_option maxHeartbeats 16000000 in
theorem entries_r (A : Option Addr) (c : Nat) (L : List Ev) (w : World) (h : Rn.At encE w A L) (hok : ∀ e ∈ L, e.ok) (hl : L.length ≤ 300) (hc : L.length ≤ c) (hcm : c ≤ maxLen) :
    Calls Tryz.prog 32 #[.slice A L.length c] w (ItS (entL L) w) := by
  have H := Lib.hid h
  have HOK := Lib.hid hok
  have HL := Lib.hid (show L.length ≤ 2000 from by omega)
  have HIDS := Lib.hid (ids_r A c L w h hl hc hcm)
  clear h hok hc hcm
  unfold entL
  cases hcs : crs L with
  | none =>
    have hL0 : crL L = [] := by unfold crL; rw [hcs]; rfl
    rw [hL0] at HIDS ⊢
    clear hcs hL0
    go_enter Tryz.func32, Tryz.ntmps32
    go_wp2_with fail
    refine HIDS.out.mono ?_
    rintro r w1 ⟨BI, di, rfl, _, _, _, hb⟩
    have HB := Lib.hid hb
    clear hb
    rw [show (idsL ([] : List Cr).length).length = 0 from rfl]
    go_wp2
    go_loopw [3, 5] (fun v i wr => v = .slice none 0 0 ∧ i = .int .i64 0 ∧ wr = w1) (fun _ _ _ => 0)
    case atStart => exact ⟨rfl, rfl, rfl⟩
    case round =>
      obtain ⟨rfl, rfl, hwr⟩ := hrel
      subst hwr
      go_wp2
      go_ret
      exact ⟨none, 0, [], rfl, Nat.le_refl _, by unfold maxLen; omega, ⟨Rn.At.nil _ _, rfl, by simp⟩, HB.out⟩
  | some l =>
    have hL0 : crL L = l := by unfold crL; rw [hcs]; rfl
    have HRW := Lib.hid (show Rw L l from ⟨(crs_some hcs).2, HL.out⟩)
    rw [hL0] at HIDS ⊢
    have hNN : (l.length : Int) ≤ 32 := by have := HRW.out.few; omega
    clear hcs hL0
    go_enter Tryz.func32, Tryz.ntmps32
    go_wp2_with fail
    refine HIDS.out.mono ?_
    rintro r w1 ⟨BI, di, rfl, _, _, hat, hb⟩
    have HI1 := Lib.hid hat
    have HB := Lib.hid hb
    have H1 := Lib.hid (H.out.below hb (Nat.le_refl _))
    clear hat hb
    rw [idsL_len]
    go_wp2
    go_loopw [3, 5] (EoRel w1 L l) (fun _ i _ => l.length - (intOf i).toNat)
    case atStart => exact ⟨0, [], Nat.zero_le _, rfl, OwnI.nil _ _ _, ⟨Below.refl _ _⟩⟩
    case round =>
      obtain ⟨k, Y, hk, rfl, hown, hs⟩ := hrel
      have HO := Lib.hid hown
      have HS := Lib.hid hs
      clear hown hs
      obtain ⟨w0, hw0⟩ : ∃ w0, w0 = wr := ⟨_, rfl⟩
      subst hw0
      by_cases hlt : k < l.length
      · obtain ⟨cr, hcr⟩ : ∃ cr, l[k]? = some cr := ⟨_, List.getElem?_eq_getElem hlt⟩
        have HCR := Lib.hid hcr
        have HAW := Lib.hid (H1.out.below HS.out.bel (Nat.le_refl _))
        have HIW := Lib.hid (HI1.out.below HS.out.bel (Nat.le_refl _))
        have hlt' : (k : Int) < (l.length : Int) := by omega
        have HKN := Lib.hid hlt
        have HKI := Lib.hid hlt'
        have HIK := Lib.hid (idsL_get hlt)
        obtain ⟨ai, rfl, hic⟩ := atI HIW.out HIK.out
        have hwc0 := HRW.out.tie.c3 k
        have hen0 := HRW.out.tie.e HRW.out.com k
        rw [hcr] at hwc0 hen0
        generalize hwc : whI L 3 ((k : Int) + 1) = wc at hwc0
        generalize hen : enI L ((k : Int) + 1) = en at hen0
        have HWC := Lib.hid hwc
        have HEN := Lib.hid hen
        have HQ1 := Lib.hid (show decide (0 ≤ wc) = cr.com from by rw [hwc0]; exact dec_if _ _)
        have HQ2 := Lib.hid (show decide (0 ≤ en) = over cr from by rw [hen0]; exact dec_if _ _)
        clear hcr hwc0 hen0 hwc hen hic
        go_wp2
        go_cut [6] from 19 to 37 (fun u wx => u = .pointer (some ⟨w0.heap.size, 0, none⟩) ∧ BoxX wx w0.heap.size 72 ⟨⟨(k : Int) + 1, cr.com, over cr, [], []⟩, none, 0, none, 0⟩ ∧ Below w0.heap.size w0 wx)
        case first =>
          refine wp_region_noPanic ?_
          refine region_z 21 (fun W => B6 w0 W) 20 1000 rfl (by kernel_rfl) (by exact (B6.mk (Below.refl _ _)).drew) (fun hHeld => ?_)
          refine take_d [2, 3, 18, 20] 0 19 (.slice (some ai) l.length di) rfl rfl (by kernel_rfl) (by kernel_rfl) (by kernel_rfl) (by kernel_rfl) (fun _ _ _ h => h) (Or.inl ⟨by rfl, by intro W hW; clear hW; go_simp⟩) hHeld ?_
          simp only [put_laws]
          refine take_d [2, 3, 18, 20] 1 20 (.int .i64 (k : Nat)) rfl rfl (by kernel_rfl) (by kernel_rfl) (by kernel_rfl) (by kernel_rfl) (fun _ _ _ h => h) (Or.inl ⟨by rfl, by intro W hW; clear hW; go_simp⟩) hHeld ?_
          simp only [put_laws]
          refine take_d [3, 18, 20] 2 21 (.pointer (some (ai.add k))) rfl rfl (by kernel_rfl) (by kernel_rfl) (by kernel_rfl) (by kernel_rfl) (fun _ _ _ h => h) (Or.inl ⟨by rfl, by intro W hW; have h1 := HKN.out; have h2 := HKI.out; clear hW; go_simp⟩) hHeld ?_
          simp only [put_laws]
          refine take_d [18, 20] 3 22 (.int .i64 ((k : Int) + 1)) rfl rfl (by kernel_rfl) (by kernel_rfl) (by kernel_rfl) (by kernel_rfl) (fun _ _ _ h => h) (Or.inl ⟨by rfl, by intro W hW; have hh := atI (HIW.out.below hW.bel (Nat.le_refl _)) HIK.out; obtain ⟨ad2, e2, hh⟩ := hh; have e2 := Option.some.inj e2; subst e2; clear hW; go_simp⟩) hHeld ?_
          simp only [put_laws]
          refine take_d [9, 10, 16, 17, 18, 20] 4 23 (.slice A L.length c) rfl rfl (by kernel_rfl) (by kernel_rfl) (by kernel_rfl) (by kernel_rfl) (fun _ _ _ h => h) (Or.inl ⟨by rfl, by intro W hW; clear hW; go_simp⟩) hHeld ?_
          simp only [put_laws]
          refine take_d [7, 8, 9, 10, 16, 17, 18, 20] 5 24 (.slice (some ai) l.length di) rfl rfl (by kernel_rfl) (by kernel_rfl) (by kernel_rfl) (by kernel_rfl) (fun _ _ _ h => h) (Or.inl ⟨by rfl, by intro W hW; clear hW; go_simp⟩) hHeld ?_
          simp only [put_laws]
          refine take_d [7, 8, 9, 10, 16, 17, 18, 20] 6 25 (.int .i64 (k : Nat)) rfl rfl (by kernel_rfl) (by kernel_rfl) (by kernel_rfl) (by kernel_rfl) (fun _ _ _ h => h) (Or.inl ⟨by rfl, by intro W hW; clear hW; go_simp⟩) hHeld ?_
          simp only [put_laws]
          refine take_d [8, 9, 10, 16, 17, 18, 20] 7 26 (.pointer (some (ai.add k))) rfl rfl (by kernel_rfl) (by kernel_rfl) (by kernel_rfl) (by kernel_rfl) (fun _ _ _ h => h) (Or.inl ⟨by rfl, by intro W hW; have h1 := HKN.out; have h2 := HKI.out; clear hW; go_simp⟩) hHeld ?_
          simp only [put_laws]
          refine take_d [9, 10, 16, 17, 18, 20] 8 27 (.int .i64 ((k : Int) + 1)) rfl rfl (by kernel_rfl) (by kernel_rfl) (by kernel_rfl) (by kernel_rfl) (fun _ _ _ h => h) (Or.inl ⟨by rfl, by intro W hW; have hh := atI (HIW.out.below hW.bel (Nat.le_refl _)) HIK.out; obtain ⟨ad2, e2, hh⟩ := hh; have e2 := Option.some.inj e2; subst e2; clear hW; go_simp⟩) hHeld ?_
          simp only [put_laws]
          refine take_d [16, 17, 18, 20] 11 30 (.slice A L.length c) rfl rfl (by kernel_rfl) (by kernel_rfl) (by kernel_rfl) (by kernel_rfl) (fun _ _ _ h => h) (Or.inl ⟨by rfl, by intro W hW; clear hW; go_simp⟩) hHeld ?_
          simp only [put_laws]
          refine take_d [14, 15, 16, 17, 18, 20] 12 31 (.slice (some ai) l.length di) rfl rfl (by kernel_rfl) (by kernel_rfl) (by kernel_rfl) (by kernel_rfl) (fun _ _ _ h => h) (Or.inl ⟨by rfl, by intro W hW; clear hW; go_simp⟩) hHeld ?_
          simp only [put_laws]
          refine take_d [14, 15, 16, 17, 18, 20] 13 32 (.int .i64 (k : Nat)) rfl rfl (by kernel_rfl) (by kernel_rfl) (by kernel_rfl) (by kernel_rfl) (fun _ _ _ h => h) (Or.inl ⟨by rfl, by intro W hW; clear hW; go_simp⟩) hHeld ?_
          simp only [put_laws]
          refine take_d [15, 16, 17, 18, 20] 14 33 (.pointer (some (ai.add k))) rfl rfl (by kernel_rfl) (by kernel_rfl) (by kernel_rfl) (by kernel_rfl) (fun _ _ _ h => h) (Or.inl ⟨by rfl, by intro W hW; have h1 := HKN.out; have h2 := HKI.out; clear hW; go_simp⟩) hHeld ?_
          simp only [put_laws]
          refine take_d [16, 17, 18, 20] 15 34 (.int .i64 ((k : Int) + 1)) rfl rfl (by kernel_rfl) (by kernel_rfl) (by kernel_rfl) (by kernel_rfl) (fun _ _ _ h => h) (Or.inl ⟨by rfl, by intro W hW; have hh := atI (HIW.out.below hW.bel (Nat.le_refl _)) HIK.out; obtain ⟨ad2, e2, hh⟩ := hh; have e2 := Option.some.inj e2; subst e2; clear hW; go_simp⟩) hHeld ?_
          simp only [put_laws]
          refine anyZ_ready (rs := [9, 19]) (by kernel_rfl) (by simp) ?_
          refine AllZ.cons rfl (fun K hK => ?_) (AllZ.cons rfl (fun K hK => ?_) AllZ.nil)
          · go_simp
            refine (where_val A c L 3 ((k : Int) + 1) wc _ (HAW.out.below hHeld.bel (Nat.le_refl _)) HL.out HWC.out).mono ?_
            rintro e w1 ⟨rfl, h9⟩
            subst w1
            try go_simp
            refine hK.out _ _ hHeld (fun hHeld => ?_)
            clear hK K
            refine take_d [18, 20] 10 29 (.bool cr.com) rfl rfl (by kernel_rfl) (by kernel_rfl) (by kernel_rfl) (by kernel_rfl) (fun _ _ _ h => h) (Or.inl ⟨by rfl, by intro W hW; have hq := HQ1.out; clear hW; go_simp⟩) hHeld ?_
            simp only [put_laws]
            refine anyZ_ready (rs := [16, 19]) (by kernel_rfl) (by simp) ?_
            refine AllZ.cons rfl (fun K hK => ?_) (AllZ.cons rfl (fun K hK => ?_) AllZ.nil)
            · go_simp
              refine (end_rv A c L ((k : Int) + 1) en _ (HAW.out.below hHeld.bel (Nat.le_refl _)) HL.out HEN.out).mono ?_
              rintro e w1 ⟨rfl, h9⟩
              subst w1
              try go_simp
              refine hK.out _ _ hHeld (fun hHeld => ?_)
              clear hK K
              refine take_d [18, 20] 17 36 (.bool (over cr)) rfl rfl (by kernel_rfl) (by kernel_rfl) (by kernel_rfl) (by kernel_rfl) (fun _ _ _ h => h) (Or.inl ⟨by rfl, by intro W hW; have hq := HQ2.out; clear hW; go_simp⟩) hHeld ?_
              simp only [put_laws]
              refine take_d [20] 18 37 (.agg #[.int .i64 ((k : Int) + 1), .bool cr.com, .bool (over cr), .slice none 0 0, .slice none 0 0]) rfl rfl (by kernel_rfl) (by kernel_rfl) (by kernel_rfl) (by kernel_rfl) (fun _ _ _ h => h) (Or.inl ⟨by rfl, by intro W hW; clear hW; go_simp⟩) hHeld ?_
              simp only [put_laws]
              refine anyZ_ready (rs := [19]) (by kernel_rfl) (by simp) ?_
              refine AllZ.cons rfl (fun K hK => ?_) AllZ.nil
              go_simp
              have hN : Rp.Blk ((w0.alloc (.cells #[.int .i64 0, .bool false, .bool false, .slice none 0 0, .slice none 0 0] 72)).drew) w0.heap.size #[.int .i64 0, .bool false, .bool false, .slice none 0 0, .slice none 0 0] 72 := Rp.Blk.new (w0.drew) #[.int .i64 0, .bool false, .bool false, .slice none 0 0, .slice none 0 0] 72
              have hPrev := hHeld
              have hHeld := hHeld.below (show Below _ _ ((w0.alloc (.cells #[.int .i64 0, .bool false, .bool false, .slice none 0 0, .slice none 0 0] 72)).drew) from Rn.below_new (w0.drew) (.cells #[.int .i64 0, .bool false, .bool false, .slice none 0 0, .slice none 0 0] 72))
              generalize (w0.alloc (.cells #[.int .i64 0, .bool false, .bool false, .slice none 0 0, .slice none 0 0] 72)).drew = w4 at *
              clear hPrev
              refine hK.out _ _ hHeld (fun hHeld => ?_)
              clear hK K
              refine anyZ_ready (rs := [20]) (by kernel_rfl) (by simp) ?_
              refine AllZ.last rfl rfl (fun K hK => ?_)
              refine step_store_row rfl 72 (.tmp 6) (.tmp 37) rfl rfl w0.heap.size (Rp.entA ⟨⟨(k : Int) + 1, cr.com, over cr, [], []⟩, none, 0, none, 0⟩) #[.int .i64 0, .bool false, .bool false, .slice none 0 0, .slice none 0 0] 72 rfl rfl hN (rent_row _) rfl (rent_one _) ?_
              refine hK.out _ _ ?_
              clear hK K
              refine anyZ_done (by kernel_rfl) ?_ _
              refine NoPanic.normal ?_
              go_wp2_with fail
              go_meet
              exact ⟨rfl, ⟨setRow_heap _ _ _ _ _ _ hN⟩, setRow_below hHeld.bel (Nat.le_refl _)⟩
            · go_simp
              have hN : Rp.Blk ((w0.alloc (.cells #[.int .i64 0, .bool false, .bool false, .slice none 0 0, .slice none 0 0] 72)).drew) w0.heap.size #[.int .i64 0, .bool false, .bool false, .slice none 0 0, .slice none 0 0] 72 := Rp.Blk.new (w0.drew) #[.int .i64 0, .bool false, .bool false, .slice none 0 0, .slice none 0 0] 72
              have hPrev := hHeld
              have hHeld := hHeld.below (show Below _ _ ((w0.alloc (.cells #[.int .i64 0, .bool false, .bool false, .slice none 0 0, .slice none 0 0] 72)).drew) from Rn.below_new (w0.drew) (.cells #[.int .i64 0, .bool false, .bool false, .slice none 0 0, .slice none 0 0] 72))
              generalize (w0.alloc (.cells #[.int .i64 0, .bool false, .bool false, .slice none 0 0, .slice none 0 0] 72)).drew = w4 at *
              clear hPrev
              refine hK.out _ _ hHeld (fun hHeld => ?_)
              clear hK K
              refine anyZ_ready (rs := [16]) (by kernel_rfl) (by simp) ?_
              refine AllZ.cons rfl (fun K hK => ?_) AllZ.nil
              go_simp
              refine (end_rv A c L ((k : Int) + 1) en _ (HAW.out.below hHeld.bel (Nat.le_refl _)) HL.out HEN.out).mono ?_
              rintro e w1 ⟨rfl, h9⟩
              subst w1
              try go_simp
              refine hK.out _ _ hHeld (fun hHeld => ?_)
              clear hK K
              refine take_d [18, 20] 17 36 (.bool (over cr)) rfl rfl (by kernel_rfl) (by kernel_rfl) (by kernel_rfl) (by kernel_rfl) (fun _ _ _ h => h) (Or.inl ⟨by rfl, by intro W hW; have hq := HQ2.out; clear hW; go_simp⟩) hHeld ?_
              simp only [put_laws]
              refine take_d [20] 18 37 (.agg #[.int .i64 ((k : Int) + 1), .bool cr.com, .bool (over cr), .slice none 0 0, .slice none 0 0]) rfl rfl (by kernel_rfl) (by kernel_rfl) (by kernel_rfl) (by kernel_rfl) (fun _ _ _ h => h) (Or.inl ⟨by rfl, by intro W hW; clear hW; go_simp⟩) hHeld ?_
              simp only [put_laws]
              refine anyZ_ready (rs := [20]) (by kernel_rfl) (by simp) ?_
              refine AllZ.last rfl rfl (fun K hK => ?_)
              refine step_store_row rfl 72 (.tmp 6) (.tmp 37) rfl rfl w0.heap.size (Rp.entA ⟨⟨(k : Int) + 1, cr.com, over cr, [], []⟩, none, 0, none, 0⟩) #[.int .i64 0, .bool false, .bool false, .slice none 0 0, .slice none 0 0] 72 rfl rfl hN (rent_row _) rfl (rent_one _) ?_
              refine hK.out _ _ ?_
              clear hK K
              refine anyZ_done (by kernel_rfl) ?_ _
              refine NoPanic.normal ?_
              go_wp2_with fail
              go_meet
              exact ⟨rfl, ⟨setRow_heap _ _ _ _ _ _ hN⟩, setRow_below hHeld.bel (Nat.le_refl _)⟩
          · go_simp
            have hN : Rp.Blk ((w0.alloc (.cells #[.int .i64 0, .bool false, .bool false, .slice none 0 0, .slice none 0 0] 72)).drew) w0.heap.size #[.int .i64 0, .bool false, .bool false, .slice none 0 0, .slice none 0 0] 72 := Rp.Blk.new (w0.drew) #[.int .i64 0, .bool false, .bool false, .slice none 0 0, .slice none 0 0] 72
            have hPrev := hHeld
            have hHeld := hHeld.below (show Below _ _ ((w0.alloc (.cells #[.int .i64 0, .bool false, .bool false, .slice none 0 0, .slice none 0 0] 72)).drew) from Rn.below_new (w0.drew) (.cells #[.int .i64 0, .bool false, .bool false, .slice none 0 0, .slice none 0 0] 72))
            generalize (w0.alloc (.cells #[.int .i64 0, .bool false, .bool false, .slice none 0 0, .slice none 0 0] 72)).drew = w4 at *
            clear hPrev
            refine hK.out _ _ hHeld (fun hHeld => ?_)
            clear hK K
            refine anyZ_ready (rs := [9]) (by kernel_rfl) (by simp) ?_
            refine AllZ.cons rfl (fun K hK => ?_) AllZ.nil
            go_simp
            refine (where_val A c L 3 ((k : Int) + 1) wc _ (HAW.out.below hHeld.bel (Nat.le_refl _)) HL.out HWC.out).mono ?_
            rintro e w1 ⟨rfl, h9⟩
            subst w1
            try go_simp
            refine hK.out _ _ hHeld (fun hHeld => ?_)
            clear hK K
            refine take_d [18, 20] 10 29 (.bool cr.com) rfl rfl (by kernel_rfl) (by kernel_rfl) (by kernel_rfl) (by kernel_rfl) (fun _ _ _ h => h) (Or.inl ⟨by rfl, by intro W hW; have hq := HQ1.out; clear hW; go_simp⟩) hHeld ?_
            simp only [put_laws]
            refine anyZ_ready (rs := [16]) (by kernel_rfl) (by simp) ?_
            refine AllZ.cons rfl (fun K hK => ?_) AllZ.nil
            go_simp
            refine (end_rv A c L ((k : Int) + 1) en _ (HAW.out.below hHeld.bel (Nat.le_refl _)) HL.out HEN.out).mono ?_
            rintro e w1 ⟨rfl, h9⟩
            subst w1
            try go_simp
            refine hK.out _ _ hHeld (fun hHeld => ?_)
            clear hK K
            refine take_d [18, 20] 17 36 (.bool (over cr)) rfl rfl (by kernel_rfl) (by kernel_rfl) (by kernel_rfl) (by kernel_rfl) (fun _ _ _ h => h) (Or.inl ⟨by rfl, by intro W hW; have hq := HQ2.out; clear hW; go_simp⟩) hHeld ?_
            simp only [put_laws]
            refine take_d [20] 18 37 (.agg #[.int .i64 ((k : Int) + 1), .bool cr.com, .bool (over cr), .slice none 0 0, .slice none 0 0]) rfl rfl (by kernel_rfl) (by kernel_rfl) (by kernel_rfl) (by kernel_rfl) (fun _ _ _ h => h) (Or.inl ⟨by rfl, by intro W hW; clear hW; go_simp⟩) hHeld ?_
            simp only [put_laws]
            refine anyZ_ready (rs := [20]) (by kernel_rfl) (by simp) ?_
            refine AllZ.last rfl rfl (fun K hK => ?_)
            refine step_store_row rfl 72 (.tmp 6) (.tmp 37) rfl rfl w0.heap.size (Rp.entA ⟨⟨(k : Int) + 1, cr.com, over cr, [], []⟩, none, 0, none, 0⟩) #[.int .i64 0, .bool false, .bool false, .slice none 0 0, .slice none 0 0] 72 rfl rfl hN (rent_row _) rfl (rent_one _) ?_
            refine hK.out _ _ ?_
            clear hK K
            refine anyZ_done (by kernel_rfl) ?_ _
            refine NoPanic.normal ?_
            go_wp2_with fail
            go_meet
            exact ⟨rfl, ⟨setRow_heap _ _ _ _ _ _ hN⟩, setRow_below hHeld.bel (Nat.le_refl _)⟩
        case rest =>
          obtain ⟨rfl, hbx, hbw⟩ := hcut
          have HX6 := Lib.hid hbx
          have HB6 := Lib.hid hbw
          clear hbx hbw
          go_wp2_with fail
          refine (vars_any A c L _ (HAW.out.below HB6.out (Nat.le_refl _)) HL.out).mono ?_
          rintro r w7 ⟨rfl, hb7⟩
          have HB7 := Lib.hid hb7
          clear hb7
          go_wp2_with (refine wpList_store_row rfl 90 (.tmp 7) (.tmp 39) rfl w7.heap.size (metA L) rfl rfl 90 _ (heap_alloc_new _ _) (by rw [metA_size]; exact boolarr_info) (by rw [metA_size]; rfl) (metA_one _) ?_)
          generalize hw8 : World.setRow _ w7.heap.size (metA L) = w8
          have hmb : w8.heap[w7.heap.size]? = some (.cells (metA L) 90 (0, 0)) ∧ Below w7.heap.size w7 w8 := by rw [← hw8]; exact ⟨setRow_heap _ _ _ _ _ _ (heap_alloc_new _ _), setRow_below (Rn.below_new _ _) (Nat.le_refl _)⟩
          generalize hq : w7.heap.size = q at hmb ⊢
          have HNE0 := Lib.hid (NE.start HX6.out HB6.out HB7.out hq hmb.1 (by rw [hq]; exact hmb.2) rfl rfl rfl rfl rfl rfl)
          clear hw8 hmb hq HB7 HB6 HX6
          generalize q + 1 = r0 at HNE0
          go_loopw [8] (NxRel w0 L q r0 k cr) (fun i _ => 64 - (intOf i).toNat)
          case atStart => exact ⟨0, _, by omega, rfl, rfl, HNE0.out⟩
          case round =>
            obtain ⟨x, xc, hx, rfl, hxe, hne⟩ := hrel
            have HNE := Lib.hid hne
            have HXE := Lib.hid hxe
            clear hne hxe
            by_cases hlx : x < 64
            · have hlx' : (x : Int) < 64 := by omega
              have hx0 : (0 : Int) ≤ (x : Int) := by omega
              have HX64 := Lib.hid hlx
              have hmt := cell_of_row _ _ x _ _ (0, 0) HNE.out.mt
              rw [metA_get L x hlx] at hmt
              cases hm : met L x with
              | false =>
                rw [hm] at hmt
                have hnm := not_met HRW.out HCR.out hm
                have HFIN := Lib.hid (ent_next HXE.out (rd_none hnm.1) (wt_none (by rw [hnm.2]; split <;> decide)))
                have HFE := Lib.hid (show xc.e = entK L k cr (x + 1) from by rw [← HFIN.out, HXE.out]; rfl)
                clear hm hnm
                go_wp2
                go_roundw
                case rel => exact ⟨x + 1, xc, by omega, by go_num, HFE.out, HNE.out⟩
                case measure => simp [intOf]; omega
              | true =>
                rw [hm] at hmt
                obtain ⟨ad, rfl, _⟩ := H1.out.cell (met_pos hm)
                obtain ⟨ai', e', hic⟩ := atI (HIW.out.below HNE.out.bel (Nat.le_refl _)) HIK.out
                obtain rfl := Option.some.inj e'
                clear hm
                obtain ⟨rv, hrv⟩ : ∃ rv, rdI L ((k : Int) + 1) (x : Int) = rv := ⟨_, rfl⟩
                obtain ⟨wv, hwv⟩ : ∃ wv, wrI L ((k : Int) + 1) (x : Int) = wv := ⟨_, rfl⟩
                have HRV := Lib.hid hrv
                have HWV := Lib.hid hwv
                have hrt := HRW.out.tie.rI HCR.out (x : Int)
                have hwt := HRW.out.tie.wI HCR.out (x : Int)
                rw [hrv] at hrt
                rw [hwv] at hwt
                have HWT := Lib.hid hwt
                clear hrv hwv hwt
                cases hrd : cr.rd (x : Int) with
                | none =>
                  rw [hrd] at hrt
                  change rv = -1 at hrt
                  subst hrt
                  have HRK := Lib.hid (rd_none (L := L) hrd)
                  clear hrd
                  have HRX := Lib.hid (show rdK L cr (x + 1) = xc.e.rd from by rw [HRK.out, HXE.out]; rfl)
                  go_wp2_with fail
                  refine (read_val (some ad) c L ((k : Int) + 1) (x : Int) _ _ (HAW.out.below HNE.out.bel (Nat.le_refl _)) HL.out HRV.out).mono ?_
                  rintro r w9 ⟨rfl, h9⟩
                  subst w9
                  go_wp2_with fail
                  refine (write_val (some ad) c L ((k : Int) + 1) (x : Int) _ _ (HAW.out.below HNE.out.bel (Nat.le_refl _)) HL.out HWV.out).mono ?_
                  rintro r w9 ⟨rfl, h9⟩
                  subst w9
                  obtain ⟨x1, hx1⟩ : ∃ x1, x1 = xc := ⟨_, rfl⟩
                  have HX1 := Lib.hid (show x1.e = ⟨xc.e.id, xc.e.com, xc.e.ovr, xc.e.rd, xc.e.wt⟩ from by rw [hx1])
                  have HN1 := Lib.hid (show NE w0 L q r0 x1 _ from by rw [hx1]; exact HNE.out)
                  clear hx1
                  by_cases hwp : 0 ≤ wv
                  · obtain ⟨n, hcm, hwm, rfl⟩ := wr_pos HWT.out hwp
                    obtain ⟨e, he, hek, hex⟩ := HRW.out.wrE HCR.out hwm
                    have HWK := Lib.hid (wt_some hcm hwm he hex)
                    have HE := Lib.hid he
                    have HNB := Lib.hid (show n < L.length ∧ (n : Int) < (L.length : Int) from ⟨(List.getElem?_eq_some_iff.1 he).1, by have := (List.getElem?_eq_some_iff.1 he).1; omega⟩)
                    have HLEN := Lib.hid (show x1.e.wt.length ≤ 64 from by rw [HX1.out, HXE.out]; exact Nat.le_trans (wtK_len _ _ _) hx)
                    have hn0 : (n : Int) ≥ 0 := hwp
                    clear he hek hex hwm hcm hwp
                    go_wp2
                    refine wp_region_noPanic ?_
                    refine region_z 11 (fun W => NE w0 L q r0 x1 W) 8 1000 rfl (by kernel_rfl) (by exact HN1.out.drew) (fun hHeld => ?_)
                    refine take_d [1, 8, 9, 10] 0 76 (.pointer (some ⟨w0.heap.size, 4, none⟩)) rfl rfl (by kernel_rfl) (by kernel_rfl) (by kernel_rfl) (by kernel_rfl) (fun _ _ _ h => h) (Or.inl ⟨by rfl, by intro W hW; clear hW; go_simp⟩) hHeld ?_
                    simp only [put_laws]
                    refine take_d [8, 9, 10] 1 77 (.slice x1.B x1.e.wt.length x1.d) rfl rfl (by kernel_rfl) (by kernel_rfl) (by kernel_rfl) (by kernel_rfl) (fun _ _ _ h => h) (Or.inl ⟨by rfl, by intro W hW; have c := hW.box.c4; clear hW; go_simp⟩) hHeld ?_
                    simp only [put_laws]
                    refine take_d [4, 5, 6, 7, 8, 9, 10] 2 78 (.slice (some ad) L.length c) rfl rfl (by kernel_rfl) (by kernel_rfl) (by kernel_rfl) (by kernel_rfl) (fun _ _ _ h => h) (Or.inl ⟨by rfl, by intro W hW; clear hW; go_simp⟩) hHeld ?_
                    simp only [put_laws]
                    refine take_d [4, 5, 6, 7, 8, 9, 10] 3 79 (.int .i64 (n : Nat)) rfl rfl (by kernel_rfl) (by kernel_rfl) (by kernel_rfl) (by kernel_rfl) (fun _ _ _ h => h) (Or.inl ⟨by rfl, by intro W hW; clear hW; go_simp⟩) hHeld ?_
                    simp only [put_laws]
                    refine take_d [5, 6, 7, 8, 9, 10] 4 80 (.pointer (some (ad.add (n * 5)))) rfl rfl (by kernel_rfl) (by kernel_rfl) (by kernel_rfl) (by kernel_rfl) (fun _ _ _ h => h) (Or.inl ⟨by rfl, by intro W hW; have h1 := HNB.out.1; have h2 := HNB.out.2; clear hW; go_simp⟩) hHeld ?_
                    simp only [put_laws]
                    refine take_d [6, 7, 8, 9, 10] 5 81 (.agg (#[.int .i64 e.kd, .int .i64 e.id, .int .i64 e.x, .int .i64 e.k, .int .i64 e.n])) rfl rfl (by kernel_rfl) (by kernel_rfl) (by kernel_rfl) (by kernel_rfl) (fun _ _ _ h => h) (Or.inl ⟨by rfl, by intro W hW; have hh := atE (HAW.out.below hW.bel (Nat.le_refl _)) HE.out; obtain ⟨ad2, e2, hh⟩ := hh; have e2 := Option.some.inj e2; subst e2; obtain ⟨c0, c1, c2, c3, c4⟩ := hh; clear hW; go_simp⟩) hHeld ?_
                    simp only [put_laws]
                    refine anyZ_ready (rs := [6]) (by kernel_rfl) (by simp) ?_
                    refine AllZ.cons rfl (fun K hK => ?_) AllZ.nil
                    go_simp
                    refine (step_rv e (e.kd == 2) rfl _).mono ?_
                    rintro e w3 ⟨rfl, hb⟩
                    try go_simp
                    have hPrev := hHeld
                    have hHeld := hHeld.below hb
                    clear hPrev
                    refine hK.out _ _ hHeld (fun hHeld => ?_)
                    clear hK K
                    refine anyZ_ready (rs := [7]) (by kernel_rfl) (by simp) ?_
                    refine AllZ.cons rfl (fun K hK => ?_) AllZ.nil
                    go_simp
                    have hN : Rp.Blk ((w3.alloc (.cells #[.int .i64 e.x, .int .i64 e.k, .int .i64 e.n, .bool (e.kd == 2)] 117))) (w3.heap.size) #[.int .i64 e.x, .int .i64 e.k, .int .i64 e.n, .bool (e.kd == 2)] 117 := Rp.Blk.new (w3) #[.int .i64 e.x, .int .i64 e.k, .int .i64 e.n, .bool (e.kd == 2)] 117
                    have hPrev := hHeld
                    have hHeld := hHeld.below (show Below _ _ ((w3.alloc (.cells #[.int .i64 e.x, .int .i64 e.k, .int .i64 e.n, .bool (e.kd == 2)] 117))) from Rn.below_new (w3) (.cells #[.int .i64 e.x, .int .i64 e.k, .int .i64 e.n, .bool (e.kd == 2)] 117))
                    generalize (w3.alloc (.cells #[.int .i64 e.x, .int .i64 e.k, .int .i64 e.n, .bool (e.kd == 2)] 117)) = w4 at *
                    clear hPrev
                    refine hK.out _ _ hHeld (fun hHeld => ?_)
                    clear hK K
                    refine anyZ_ready (rs := [8]) (by kernel_rfl) (by simp) ?_
                    refine AllZ.last rfl rfl (fun K hK => ?_)
                    refine Rp.step_append_rowG encS vtS rfl (.tmp 77) (.tmp 83) rfl (v := .slice x1.B x1.e.wt.length x1.d) rfl hHeld.wt _ _ [⟨e.x, e.k, e.n, e.kd == 2⟩] rfl rfl (at_blk (s := ⟨e.x, e.k, e.n, e.kd == 2⟩) hN) (by simp) (by have := HLEN.out; simp; omega) hHeld.lt.2.2 ?_
                    intro v' w5 ho5 hg5 hl5
                    have hS5 := hHeld.addW ho5 hg5 hl5
                    clear hHeld ho5 hg5 hl5 hN
                    obtain ⟨A5, c5, rfl, hS5, hc5, hf5⟩ := hS5
                    rw [List.length_append, List.length_singleton] at hS5
                    have HNE5 := Lib.hid hS5
                    clear hS5
                    refine hK.out _ _ ?_
                    clear hK K
                    refine anyZ_ready (rs := [9]) (by kernel_rfl) (by simp) ?_
                    refine AllZ.last rfl rfl (fun K hK => ?_)
                    go_simp
                    refine hK.out _ _ ?_
                    clear hK K
                    refine anyZ_ready (rs := [10]) (by kernel_rfl) (by simp) ?_
                    refine AllZ.last rfl rfl (fun K hK => ?_)
                    go_simp
                    refine hK.out _ _ ?_
                    clear hK K hc5 hf5
                    refine anyZ_done (by kernel_rfl) ?_ _
                    refine NoPanic.normal ?_
                    go_wp2
                    go_roundw
                    case rel => exact ⟨x + 1, ⟨⟨x1.e.id, x1.e.com, x1.e.ovr, x1.e.rd, x1.e.wt ++ [⟨e.x, e.k, e.n, e.kd == 2⟩]⟩, x1.A, x1.c, A5, c5⟩, by have := HX64.out; omega, by go_num, (show (⟨x1.e.id, x1.e.com, x1.e.ovr, x1.e.rd, x1.e.wt ++ [⟨e.x, e.k, e.n, e.kd == 2⟩]⟩ : Ent) = _ from by
                      have h := ent_next HXE.out HRX.out (show wtK L cr (x + 1) = xc.e.wt ++ [⟨e.x, e.k, e.n, e.kd == 2⟩] from by rw [HWK.out, HXE.out]; rfl)
                      rw [HX1.out]; exact h), HNE5.out⟩
                    case measure => simp [intOf]; have := HX64.out; omega
                  · have hwn : ¬ wv ≥ 0 := hwp
                    have HWK := Lib.hid (wt_none (L := L) (k := x) (by rw [← HWT.out]; omega))
                    clear hwp
                    go_wp2
                    go_roundw
                    case rel => exact ⟨x + 1, x1, by have := HX64.out; omega, by go_num, by
                      have h := ent_next HXE.out HRX.out (show wtK L cr (x + 1) = xc.e.wt from by rw [HWK.out, HXE.out]; rfl)
                      rw [HX1.out]; exact h, HN1.out⟩
                    case measure => simp [intOf]; have := HX64.out; omega
                | some n =>
                  rw [hrd] at hrt
                  change rv = (n : Int) at hrt
                  subst hrt
                  obtain ⟨e, he, hek, hex⟩ := HRW.out.rdE HCR.out hrd
                  have HE := Lib.hid he
                  have HNB := Lib.hid (show n < L.length ∧ (n : Int) < (L.length : Int) from ⟨(List.getElem?_eq_some_iff.1 he).1, by have := (List.getElem?_eq_some_iff.1 he).1; omega⟩)
                  have HRK := Lib.hid (rd_some hrd he hex)
                  have hn0 : (n : Int) ≥ 0 := by omega
                  have HLEN := Lib.hid (show xc.e.rd.length ≤ 64 from by rw [HXE.out]; exact Nat.le_trans (rdK_len _ _ _) hx)
                  clear he hek hex hrd
                  go_wp2_with fail
                  refine (read_val (some ad) c L ((k : Int) + 1) (x : Int) _ _ (HAW.out.below HNE.out.bel (Nat.le_refl _)) HL.out HRV.out).mono ?_
                  rintro r w9 ⟨rfl, h9⟩
                  subst w9
                  go_wp2_with fail
                  refine (write_val (some ad) c L ((k : Int) + 1) (x : Int) _ _ (HAW.out.below HNE.out.bel (Nat.le_refl _)) HL.out HWV.out).mono ?_
                  rintro r w9 ⟨rfl, h9⟩
                  subst w9
                  go_wp2
                  refine wp_region_noPanic ?_
                  refine region_z 11 (fun W => NE w0 L q r0 xc W) 8 1000 rfl (by kernel_rfl) (by exact HNE.out.drew) (fun hHeld => ?_)
                  refine take_d [1, 8, 9, 10] 0 64 (.pointer (some ⟨w0.heap.size, 3, none⟩)) rfl rfl (by kernel_rfl) (by kernel_rfl) (by kernel_rfl) (by kernel_rfl) (fun _ _ _ h => h) (Or.inl ⟨by rfl, by intro W hW; clear hW; go_simp⟩) hHeld ?_
                  simp only [put_laws]
                  refine take_d [8, 9, 10] 1 65 (.slice xc.A xc.e.rd.length xc.c) rfl rfl (by kernel_rfl) (by kernel_rfl) (by kernel_rfl) (by kernel_rfl) (fun _ _ _ h => h) (Or.inl ⟨by rfl, by intro W hW; have c := hW.box.c3; clear hW; go_simp⟩) hHeld ?_
                  simp only [put_laws]
                  refine take_d [4, 5, 6, 7, 8, 9, 10] 2 66 (.slice (some ad) L.length c) rfl rfl (by kernel_rfl) (by kernel_rfl) (by kernel_rfl) (by kernel_rfl) (fun _ _ _ h => h) (Or.inl ⟨by rfl, by intro W hW; clear hW; go_simp⟩) hHeld ?_
                  simp only [put_laws]
                  refine take_d [4, 5, 6, 7, 8, 9, 10] 3 67 (.int .i64 (n : Nat)) rfl rfl (by kernel_rfl) (by kernel_rfl) (by kernel_rfl) (by kernel_rfl) (fun _ _ _ h => h) (Or.inl ⟨by rfl, by intro W hW; clear hW; go_simp⟩) hHeld ?_
                  simp only [put_laws]
                  refine take_d [5, 6, 7, 8, 9, 10] 4 68 (.pointer (some (ad.add (n * 5)))) rfl rfl (by kernel_rfl) (by kernel_rfl) (by kernel_rfl) (by kernel_rfl) (fun _ _ _ h => h) (Or.inl ⟨by rfl, by intro W hW; have h1 := HNB.out.1; have h2 := HNB.out.2; clear hW; go_simp⟩) hHeld ?_
                  simp only [put_laws]
                  refine take_d [6, 7, 8, 9, 10] 5 69 (.agg (#[.int .i64 e.kd, .int .i64 e.id, .int .i64 e.x, .int .i64 e.k, .int .i64 e.n])) rfl rfl (by kernel_rfl) (by kernel_rfl) (by kernel_rfl) (by kernel_rfl) (fun _ _ _ h => h) (Or.inl ⟨by rfl, by intro W hW; have hh := atE (HAW.out.below hW.bel (Nat.le_refl _)) HE.out; obtain ⟨ad2, e2, hh⟩ := hh; have e2 := Option.some.inj e2; subst e2; obtain ⟨c0, c1, c2, c3, c4⟩ := hh; clear hW; go_simp⟩) hHeld ?_
                  simp only [put_laws]
                  refine anyZ_ready (rs := [6]) (by kernel_rfl) (by simp) ?_
                  refine AllZ.cons rfl (fun K hK => ?_) AllZ.nil
                  go_simp
                  refine (step_rv e (e.kd == 2) rfl _).mono ?_
                  rintro e w3 ⟨rfl, hb⟩
                  try go_simp
                  have hPrev := hHeld
                  have hHeld := hHeld.below hb
                  clear hPrev
                  refine hK.out _ _ hHeld (fun hHeld => ?_)
                  clear hK K
                  refine anyZ_ready (rs := [7]) (by kernel_rfl) (by simp) ?_
                  refine AllZ.cons rfl (fun K hK => ?_) AllZ.nil
                  go_simp
                  have hN : Rp.Blk ((w3.alloc (.cells #[.int .i64 e.x, .int .i64 e.k, .int .i64 e.n, .bool (e.kd == 2)] 117))) (w3.heap.size) #[.int .i64 e.x, .int .i64 e.k, .int .i64 e.n, .bool (e.kd == 2)] 117 := Rp.Blk.new (w3) #[.int .i64 e.x, .int .i64 e.k, .int .i64 e.n, .bool (e.kd == 2)] 117
                  have hPrev := hHeld
                  have hHeld := hHeld.below (show Below _ _ ((w3.alloc (.cells #[.int .i64 e.x, .int .i64 e.k, .int .i64 e.n, .bool (e.kd == 2)] 117))) from Rn.below_new (w3) (.cells #[.int .i64 e.x, .int .i64 e.k, .int .i64 e.n, .bool (e.kd == 2)] 117))
                  generalize (w3.alloc (.cells #[.int .i64 e.x, .int .i64 e.k, .int .i64 e.n, .bool (e.kd == 2)] 117)) = w4 at *
                  clear hPrev
                  refine hK.out _ _ hHeld (fun hHeld => ?_)
                  clear hK K
                  refine anyZ_ready (rs := [8]) (by kernel_rfl) (by simp) ?_
                  refine AllZ.last rfl rfl (fun K hK => ?_)
                  refine Rp.step_append_rowG encS vtS rfl (.tmp 65) (.tmp 71) rfl (v := .slice xc.A xc.e.rd.length xc.c) rfl hHeld.rd _ _ [⟨e.x, e.k, e.n, e.kd == 2⟩] rfl rfl (at_blk (s := ⟨e.x, e.k, e.n, e.kd == 2⟩) hN) (by simp) (by have := HLEN.out; simp; omega) hHeld.lt.2.2 ?_
                  intro v' w5 ho5 hg5 hl5
                  have hS5 := hHeld.addR ho5 hg5 hl5
                  clear hHeld ho5 hg5 hl5 hN
                  obtain ⟨A5, c5, rfl, hS5, hc5, hf5⟩ := hS5
                  rw [List.length_append, List.length_singleton] at hS5
                  have HNE5 := Lib.hid hS5
                  clear hS5
                  refine hK.out _ _ ?_
                  clear hK K
                  refine anyZ_ready (rs := [9]) (by kernel_rfl) (by simp) ?_
                  refine AllZ.last rfl rfl (fun K hK => ?_)
                  go_simp
                  refine hK.out _ _ ?_
                  clear hK K
                  refine anyZ_ready (rs := [10]) (by kernel_rfl) (by simp) ?_
                  refine AllZ.last rfl rfl (fun K hK => ?_)
                  go_simp
                  refine hK.out _ _ ?_
                  clear hK K hc5 hf5
                  refine anyZ_done (by kernel_rfl) ?_ _
                  refine NoPanic.normal ?_
                  generalize World.setCell _ _ _ = w2 at HNE5 ⊢
                  obtain ⟨x1, hx1⟩ : ∃ x1 : Xc, x1 = ⟨⟨xc.e.id, xc.e.com, xc.e.ovr, xc.e.rd ++ [⟨e.x, e.k, e.n, e.kd == 2⟩], xc.e.wt⟩, A5, c5, xc.B, xc.d⟩ := ⟨_, rfl⟩
                  rw [← hx1] at HNE5
                  have HX1 := Lib.hid (show x1.e = ⟨xc.e.id, xc.e.com, xc.e.ovr, xc.e.rd ++ [⟨e.x, e.k, e.n, e.kd == 2⟩], xc.e.wt⟩ from by rw [hx1])
                  have HRX := Lib.hid (show rdK L cr (x + 1) = xc.e.rd ++ [⟨e.x, e.k, e.n, e.kd == 2⟩] from by rw [HRK.out, HXE.out]; rfl)
                  have HN1 := Lib.hid HNE5.out
                  clear hx1 HNE HE HNB HLEN HNE5 hn0
                  by_cases hwp : 0 ≤ wv
                  · obtain ⟨n, hcm, hwm, rfl⟩ := wr_pos HWT.out hwp
                    obtain ⟨e, he, hek, hex⟩ := HRW.out.wrE HCR.out hwm
                    have HWK := Lib.hid (wt_some hcm hwm he hex)
                    have HE := Lib.hid he
                    have HNB := Lib.hid (show n < L.length ∧ (n : Int) < (L.length : Int) from ⟨(List.getElem?_eq_some_iff.1 he).1, by have := (List.getElem?_eq_some_iff.1 he).1; omega⟩)
                    have HLEN := Lib.hid (show x1.e.wt.length ≤ 64 from by rw [HX1.out, HXE.out]; exact Nat.le_trans (wtK_len _ _ _) hx)
                    have hn0 : (n : Int) ≥ 0 := hwp
                    clear he hek hex hwm hcm hwp
                    go_wp2
                    refine wp_region_noPanic ?_
                    refine region_z 11 (fun W => NE w0 L q r0 x1 W) 8 1000 rfl (by kernel_rfl) (by exact HN1.out.drew) (fun hHeld => ?_)
                    refine take_d [1, 8, 9, 10] 0 76 (.pointer (some ⟨w0.heap.size, 4, none⟩)) rfl rfl (by kernel_rfl) (by kernel_rfl) (by kernel_rfl) (by kernel_rfl) (fun _ _ _ h => h) (Or.inl ⟨by rfl, by intro W hW; clear hW; go_simp⟩) hHeld ?_
                    simp only [put_laws]
                    refine take_d [8, 9, 10] 1 77 (.slice x1.B x1.e.wt.length x1.d) rfl rfl (by kernel_rfl) (by kernel_rfl) (by kernel_rfl) (by kernel_rfl) (fun _ _ _ h => h) (Or.inl ⟨by rfl, by intro W hW; have c := hW.box.c4; clear hW; go_simp⟩) hHeld ?_
                    simp only [put_laws]
                    refine take_d [4, 5, 6, 7, 8, 9, 10] 2 78 (.slice (some ad) L.length c) rfl rfl (by kernel_rfl) (by kernel_rfl) (by kernel_rfl) (by kernel_rfl) (fun _ _ _ h => h) (Or.inl ⟨by rfl, by intro W hW; clear hW; go_simp⟩) hHeld ?_
                    simp only [put_laws]
                    refine take_d [4, 5, 6, 7, 8, 9, 10] 3 79 (.int .i64 (n : Nat)) rfl rfl (by kernel_rfl) (by kernel_rfl) (by kernel_rfl) (by kernel_rfl) (fun _ _ _ h => h) (Or.inl ⟨by rfl, by intro W hW; clear hW; go_simp⟩) hHeld ?_
                    simp only [put_laws]
                    refine take_d [5, 6, 7, 8, 9, 10] 4 80 (.pointer (some (ad.add (n * 5)))) rfl rfl (by kernel_rfl) (by kernel_rfl) (by kernel_rfl) (by kernel_rfl) (fun _ _ _ h => h) (Or.inl ⟨by rfl, by intro W hW; have h1 := HNB.out.1; have h2 := HNB.out.2; clear hW; go_simp⟩) hHeld ?_
                    simp only [put_laws]
                    refine take_d [6, 7, 8, 9, 10] 5 81 (.agg (#[.int .i64 e.kd, .int .i64 e.id, .int .i64 e.x, .int .i64 e.k, .int .i64 e.n])) rfl rfl (by kernel_rfl) (by kernel_rfl) (by kernel_rfl) (by kernel_rfl) (fun _ _ _ h => h) (Or.inl ⟨by rfl, by intro W hW; have hh := atE (HAW.out.below hW.bel (Nat.le_refl _)) HE.out; obtain ⟨ad2, e2, hh⟩ := hh; have e2 := Option.some.inj e2; subst e2; obtain ⟨c0, c1, c2, c3, c4⟩ := hh; clear hW; go_simp⟩) hHeld ?_
                    simp only [put_laws]
                    refine anyZ_ready (rs := [6]) (by kernel_rfl) (by simp) ?_
                    refine AllZ.cons rfl (fun K hK => ?_) AllZ.nil
                    go_simp
                    refine (step_rv e (e.kd == 2) rfl _).mono ?_
                    rintro e w3 ⟨rfl, hb⟩
                    try go_simp
                    have hPrev := hHeld
                    have hHeld := hHeld.below hb
                    clear hPrev
                    refine hK.out _ _ hHeld (fun hHeld => ?_)
                    clear hK K
                    refine anyZ_ready (rs := [7]) (by kernel_rfl) (by simp) ?_
                    refine AllZ.cons rfl (fun K hK => ?_) AllZ.nil
                    go_simp
                    have hN : Rp.Blk ((w3.alloc (.cells #[.int .i64 e.x, .int .i64 e.k, .int .i64 e.n, .bool (e.kd == 2)] 117))) (w3.heap.size) #[.int .i64 e.x, .int .i64 e.k, .int .i64 e.n, .bool (e.kd == 2)] 117 := Rp.Blk.new (w3) #[.int .i64 e.x, .int .i64 e.k, .int .i64 e.n, .bool (e.kd == 2)] 117
                    have hPrev := hHeld
                    have hHeld := hHeld.below (show Below _ _ ((w3.alloc (.cells #[.int .i64 e.x, .int .i64 e.k, .int .i64 e.n, .bool (e.kd == 2)] 117))) from Rn.below_new (w3) (.cells #[.int .i64 e.x, .int .i64 e.k, .int .i64 e.n, .bool (e.kd == 2)] 117))
                    generalize (w3.alloc (.cells #[.int .i64 e.x, .int .i64 e.k, .int .i64 e.n, .bool (e.kd == 2)] 117)) = w4 at *
                    clear hPrev
                    refine hK.out _ _ hHeld (fun hHeld => ?_)
                    clear hK K
                    refine anyZ_ready (rs := [8]) (by kernel_rfl) (by simp) ?_
                    refine AllZ.last rfl rfl (fun K hK => ?_)
                    refine Rp.step_append_rowG encS vtS rfl (.tmp 77) (.tmp 83) rfl (v := .slice x1.B x1.e.wt.length x1.d) rfl hHeld.wt _ _ [⟨e.x, e.k, e.n, e.kd == 2⟩] rfl rfl (at_blk (s := ⟨e.x, e.k, e.n, e.kd == 2⟩) hN) (by simp) (by have := HLEN.out; simp; omega) hHeld.lt.2.2 ?_
                    intro v' w5 ho5 hg5 hl5
                    have hS5 := hHeld.addW ho5 hg5 hl5
                    clear hHeld ho5 hg5 hl5 hN
                    obtain ⟨A5, c5, rfl, hS5, hc5, hf5⟩ := hS5
                    rw [List.length_append, List.length_singleton] at hS5
                    have HNE5 := Lib.hid hS5
                    clear hS5
                    refine hK.out _ _ ?_
                    clear hK K
                    refine anyZ_ready (rs := [9]) (by kernel_rfl) (by simp) ?_
                    refine AllZ.last rfl rfl (fun K hK => ?_)
                    go_simp
                    refine hK.out _ _ ?_
                    clear hK K
                    refine anyZ_ready (rs := [10]) (by kernel_rfl) (by simp) ?_
                    refine AllZ.last rfl rfl (fun K hK => ?_)
                    go_simp
                    refine hK.out _ _ ?_
                    clear hK K hc5 hf5
                    refine anyZ_done (by kernel_rfl) ?_ _
                    refine NoPanic.normal ?_
                    go_wp2
                    go_roundw
                    case rel => exact ⟨x + 1, ⟨⟨x1.e.id, x1.e.com, x1.e.ovr, x1.e.rd, x1.e.wt ++ [⟨e.x, e.k, e.n, e.kd == 2⟩]⟩, x1.A, x1.c, A5, c5⟩, by have := HX64.out; omega, by go_num, (show (⟨x1.e.id, x1.e.com, x1.e.ovr, x1.e.rd, x1.e.wt ++ [⟨e.x, e.k, e.n, e.kd == 2⟩]⟩ : Ent) = _ from by
                      have h := ent_next HXE.out HRX.out (show wtK L cr (x + 1) = xc.e.wt ++ [⟨e.x, e.k, e.n, e.kd == 2⟩] from by rw [HWK.out, HXE.out]; rfl)
                      rw [HX1.out]; exact h), HNE5.out⟩
                    case measure => simp [intOf]; have := HX64.out; omega
                  · have hwn : ¬ wv ≥ 0 := hwp
                    have HWK := Lib.hid (wt_none (L := L) (k := x) (by rw [← HWT.out]; omega))
                    clear hwp
                    go_wp2
                    go_roundw
                    case rel => exact ⟨x + 1, x1, by have := HX64.out; omega, by go_num, by
                      have h := ent_next HXE.out HRX.out (show wtK L cr (x + 1) = xc.e.wt from by rw [HWK.out, HXE.out]; rfl)
                      rw [HX1.out]; exact h, HN1.out⟩
                    case measure => simp [intOf]; have := HX64.out; omega
            · have hlx' : ¬ (x : Int) < 64 := by omega
              obtain rfl : x = 64 := by omega
              have HFE := Lib.hid (show xc.e = entF L l k from by rw [HXE.out, entK_all]; unfold entF; rw [HCR.out])
              have hokc := HRW.out.okc HCR.out
              have s1 := own_sl HNE.out.rd (by rw [HXE.out]; exact rdK_ok hokc HOK.out 64)
              have s2 := own_sl HNE.out.wt (by rw [HXE.out]; exact wtK_ok hokc HOK.out 64)
              have HRX := Lib.hid (show RdX _ xc from ⟨s1.1, s2.1⟩)
              have HOF := Lib.hid (Rp.off_fresh HO.out.row (Nat.le_of_lt (Nat.lt_trans HNE.out.lt.1 HNE.out.lt.2.1)) s1.2 s2.2)
              have HOW := Lib.hid (HO.out.below HNE.out.bel)
              have c0 := HNE.out.box.c0
              have c1 := HNE.out.box.c1
              have c2 := HNE.out.box.c2
              have c3 := HNE.out.box.c3
              have c4 := HNE.out.box.c4
              have HAT := Lib.hid (fun W => Rn.At.new (E := encX) W xc (Rp.entA xc) rfl 72 (g := W.heap.size) rfl)
              have HYL := Lib.hid (show Y.length ≤ 10000 from by rw [HO.out.len]; simp; omega)
              clear hokc s1 s2
              unfold Rp.entA at HAT
              go_wp2_with (at_builtin; refine Rp.append_rowG encX Rp.vtY rfl _ _ rfl rfl (HOW.out.below (Rn.below_new _ _)).row _ _ [xc] rfl rfl (HAT.out _) (by simp) (by have := HYL.out; simp; omega) (by have := HS.out.bel.size; have := HNE.out.bel.size; simp; omega) ?_)
              intro v' w9 ho9 hg9 hl9
              have HO9 := Lib.hid ((HOW.out.below (Rn.below_new _ _)).snoc (x := xc) (HRX.out.below (Rn.below_new _ _) (Nat.le_refl _)) HOF.out ho9 hg9 (by rw [Rn.size_new]; exact hl9))
              have HB9 := Lib.hid (show Below w1.heap.size w1 w9 from (HS.out.bel.trans ((HNE.out.bel.alloc HNE.out.bel.size _).mono HS.out.bel.size)).trans (Rp.grown_below (HOW.out.below (Rn.below_new _ _)).row hg9 (by have := HS.out.bel.size; have := HNE.out.bel.size; simp; omega)))
              clear ho9 hg9 hl9 c0 c1 c2 c3 c4
              go_wp2
              go_roundw
              case rel => exact ⟨k + 1, Y ++ [xc], by have := HKN.out; omega, by go_num, by rw [List.range_succ, List.map_append, List.map_singleton, ← HFE.out]; exact HO9.out, ⟨HB9.out⟩⟩
              case measure => simp [intOf]; have := HKN.out; omega
      · have hlt' : ¬ (k : Int) < (l.length : Int) := by omega
        obtain rfl : k = l.length := by omega
        have hsl := HO.out.slice
        obtain ⟨B2, d2, rfl, e1, e2, hit⟩ := hsl
        have HIT := Lib.hid hit
        have HE12 := Lib.hid (And.intro e1 e2)
        clear e1 e2 hit
        go_wp2
        go_ret
        exact ⟨B2, d2, Y, by rw [List.length_map, List.length_range]; rfl, HE12.out.1, HE12.out.2, HIT.out, HB.out.trans (HS.out.bel.mono HB.out.size)⟩
end Go.Proofs.YtaonepbongbhoaaGreat.Hi
namespace Go.Proofs.YtaonepbongbhoaaGreat.Hi
open Go.RowKit
open Tx (i64p)
/-- a span as the document has it. -/
abbrev encR : Rn.Enc (Nat × Nat) where
  n := 3
  pos := by decide
  cells p := [.int .i64 (p.1 : Nat), .int .i64 (p.2 : Nat), .bool true]
  len _ := rfl
  one v u hu := by simp at hu; rcases hu with rfl | rfl | rfl <;> rfl
theorem rspan_all : (Tryz.prog.info? 69).map (fun i => (i.zero, i.size, i.bytes)) = some (some (.agg #[.int .i64 0, .int .i64 0, .bool false]), 3, 24) := by kernel_rfl
theorem vtR : Rn.VT encR 63 69 := by
  obtain ⟨i0, hi, hz0, hz1, hz2⟩ := info_parts rspan_all
  exact ⟨Tryz.underlying63, i0, _, hi, hz0, hz1, by rw [hz2]; decide, rfl⟩
def beL (l : List Cr) : List (Nat × Nat) := l.map fun c => (c.b, c.e)
theorem atI1 {w : World} {A : Option Addr} {X : List Int} (h : Rn.At encI w A X) {j : Nat} {x : Int} (hx : X[j]? = some x) : ∃ ad, A = some ad ∧ w.cell? (ad.add j) = some (.int .i64 x) := by
  obtain ⟨ad, e, hc⟩ := h.get hx
  exact ⟨ad, e, by have := hc 0 _ rfl; simpa using this⟩
theorem rof_c {b e : Nat} (h : b ≤ e) (he : e ≤ never) (w : World) : Calls Tryz.prog 62 #[.int .i64 (b : Nat), .int .i64 (e : Nat)] w fun r w' => r = .returned (.agg #[.int .i64 (b : Nat), .int .i64 (e : Nat), .bool true]) ∧ Below w.heap.size w w' := by
  refine (Cx.rof_any (b : Int) (e : Int) w).mono ?_
  rintro r w' ⟨rfl, rfl⟩
  unfold never at he
  refine ⟨?_, Rn.below_new _ _⟩
  unfold Cx.rv
  rw [Cx.rc_mk (by omega)]
def SrRel (w1 : World) (l : List Cr) (v i : Value) (wr : World) : Prop := ∃ k : Nat, k ≤ l.length ∧ i = .int .i64 (k : Nat) ∧ Rn.Own encR wr w1.heap.size 69 v (beL (l.take k)) ∧ Below w1.heap.size w1 wr
set_option maxRecDepth 100000 in
set_option maxHeartbeats 8000000 in
theorem spans_r (A : Option Addr) (c : Nat) (L : List Ev) (w : World) (h : Rn.At encE w A L) (hl : L.length ≤ 300) (hc : L.length ≤ c) (hcm : c ≤ maxLen) :
    Calls Tryz.prog 31 #[.slice A L.length c] w (RowS encR (beL (crL L)) w) := by
  have H := Lib.hid h
  have HL := Lib.hid (show L.length ≤ 2000 from by omega)
  have HIDS := Lib.hid (ids_r A c L w h hl hc hcm)
  clear h hc hcm
  cases hcs : crs L with
  | none =>
    have hL0 : crL L = [] := by unfold crL; rw [hcs]; rfl
    rw [hL0] at HIDS ⊢
    clear hcs hL0
    go_enter Tryz.func31, Tryz.ntmps31
    go_wp2_with fail
    refine HIDS.out.mono ?_
    rintro r w1 ⟨BI, di, rfl, _, _, _, hb⟩
    have HB := Lib.hid hb
    clear hb
    rw [show (idsL ([] : List Cr).length).length = 0 from rfl]
    go_wp2
    go_loopw [3, 5] (fun v i wr => v = .slice none 0 0 ∧ i = .int .i64 0 ∧ wr = w1) (fun _ _ _ => 0)
    case atStart => exact ⟨rfl, rfl, rfl⟩
    case round =>
      obtain ⟨rfl, rfl, hwr⟩ := hrel
      subst hwr
      go_wp2
      go_ret
      exact own_rows (Rn.Own.nil (E := encR) _ w.heap.size 69) HB.out
  | some l =>
    have hL0 : crL L = l := by unfold crL; rw [hcs]; rfl
    have HRW := Lib.hid (show Rw L l from ⟨(crs_some hcs).2, HL.out⟩)
    rw [hL0] at HIDS ⊢
    have hNN : (l.length : Int) ≤ 32 := by have := HRW.out.few; omega
    clear hcs hL0
    go_enter Tryz.func31, Tryz.ntmps31
    go_wp2_with fail
    refine HIDS.out.mono ?_
    rintro r w1 ⟨BI, di, rfl, _, _, hat, hb⟩
    have HI1 := Lib.hid hat
    have HB := Lib.hid hb
    have H1 := Lib.hid (H.out.below hb (Nat.le_refl _))
    clear hat hb
    rw [idsL_len]
    go_wp2
    go_loopw [3, 5] (SrRel w1 l) (fun _ i _ => l.length - (intOf i).toNat)
    case atStart => exact ⟨0, Nat.zero_le _, rfl, Rn.Own.nil _ _ _, Below.refl _ _⟩
    case round =>
      obtain ⟨k, hk, rfl, hown, hs⟩ := hrel
      have HO := Lib.hid hown
      have HS := Lib.hid hs
      clear hown hs
      by_cases hlt : k < l.length
      · obtain ⟨cr, hcr⟩ : ∃ cr, l[k]? = some cr := ⟨_, List.getElem?_eq_getElem hlt⟩
        have HCR := Lib.hid hcr
        have hlt' : (k : Int) < (l.length : Int) := by omega
        have hIK := idsL_get hlt
        obtain ⟨ai, rfl, hic⟩ := atI1 (HI1.out.below HS.out (Nat.le_refl _)) hIK
        have HA := Lib.hid (H1.out.below HS.out (Nat.le_refl _))
        have hb0 := HRW.out.tie.b k
        have hen0 := HRW.out.tie.e HRW.out.com k
        rw [hcr] at hb0 hen0
        have HB0 := Lib.hid hb0
        have hok := HRW.out.okc hcr
        have hgc := hok.gc HL.out
        have HGC := Lib.hid hgc
        have HKB := Lib.hid hlt
        have HTK := Lib.hid (show beL (l.take (k + 1)) = beL (l.take k) ++ [(cr.b, cr.e)] from by rw [Rn.step_take hcr]; unfold beL; rw [List.map_append]; rfl)
        have HTL := Lib.hid (show (beL (l.take k)).length ≤ 32 from by have := HRW.out.few; unfold beL; rw [List.length_map, List.length_take]; omega)
        have hAT := fun W => Rn.At.new (E := encR) W (cr.b, cr.e) #[.int .i64 (cr.b : Nat), .int .i64 (cr.e : Nat), .bool true] rfl 69 (g := W.heap.size) rfl
        have HAT := Lib.hid hAT
        clear hIK hb0 hok hgc hAT hcr
        by_cases hv : over cr = true
        · have hen1 : enI L ((k : Int) + 1) = (cr.e : Int) := by rw [hen0]; unfold oE; simp only; rw [if_pos hv]
          have HEN := Lib.hid hen1
          have hge : (cr.e : Int) ≥ 0 := by omega
          clear hen0 hen1 hv
          go_wp2_with fail
          refine (end_rv A c L ((k : Int) + 1) _ _ HA.out HL.out HEN.out).mono ?_
          rintro r w9 ⟨rfl, h9⟩
          subst w9
          go_wp2_with fail
          refine (end_rv A c L ((k : Int) + 1) _ _ HA.out HL.out HEN.out).mono ?_
          rintro r w9 ⟨rfl, h9⟩
          subst w9
          go_wp2_with fail
          refine (where_val A c L 0 ((k : Int) + 1) _ _ HA.out HL.out HB0.out).mono ?_
          rintro r w9 ⟨rfl, h9⟩
          subst w9
          go_wp2_with fail
          refine (rof_c HGC.out.1 HGC.out.2 _).mono ?_
          rintro r w9 ⟨rfl, hb9⟩
          have HO9 := Lib.hid (HO.out.below hb9 (Nat.le_refl _))
          have HB9 := Lib.hid (HS.out.trans (hb9.mono HS.out.size))
          clear hb9 hic
          go_wp2_with (at_builtin; refine Rn.append_row encR vtR rfl _ _ rfl rfl (HO9.out.alloc _) _ _ [(cr.b, cr.e)] rfl rfl (HAT.out _) ?c1 ?c2 ?_)
          case c1 => have := HTL.out; simp; omega
          case c2 => have := HB9.out.size; simp; omega
          intro v' w8 ho8 hb8 hs8
          have HO8 := Lib.hid (show Rn.Own encR w8 w1.heap.size 69 v' (beL (l.take (k + 1))) from by rw [HTK.out]; exact ho8)
          have HB8 := Lib.hid ((HB9.out.alloc HB9.out.size _).trans hb8)
          clear ho8 hb8 hs8
          go_wp2
          go_roundw
          case rel => exact ⟨k + 1, by have := HKB.out; omega, by go_num, HO8.out, HB8.out⟩
          case measure => simp [intOf]; have := HKB.out; omega
        · have hen1 : enI L ((k : Int) + 1) = -1 := by rw [hen0]; unfold oE; simp only; rw [if_neg hv]
          have hnv : cr.e = never := by simpa [over] using hv
          have HEN := Lib.hid hen1
          have HNV := Lib.hid hnv
          clear hen0 hen1 hv hnv
          go_wp2_with fail
          refine (end_rv A c L ((k : Int) + 1) _ _ HA.out HL.out HEN.out).mono ?_
          rintro r w9 ⟨rfl, h9⟩
          subst w9
          go_wp2_with fail
          refine (where_val A c L 0 ((k : Int) + 1) _ _ HA.out HL.out HB0.out).mono ?_
          rintro r w9 ⟨rfl, h9⟩
          subst w9
          have HROF := Lib.hid (fun W => rof_c HGC.out.1 HGC.out.2 W)
          have HE8 := Lib.hid (show ((cr.e : Nat) : Int) = 9007199254740992 from by rw [HNV.out]; rfl)
          rw [HE8.out] at HROF HAT
          go_wp2_with fail
          refine (HROF.out _).mono ?_
          rintro r w9 ⟨rfl, hb9⟩
          have HO9 := Lib.hid (HO.out.below hb9 (Nat.le_refl _))
          have HB9 := Lib.hid (HS.out.trans (hb9.mono HS.out.size))
          clear hb9 hic
          go_wp2_with (at_builtin; refine Rn.append_row encR vtR rfl _ _ rfl rfl (HO9.out.alloc _) _ _ [(cr.b, cr.e)] rfl rfl (HAT.out _) ?c1 ?c2 ?_)
          case c1 => have := HTL.out; simp; omega
          case c2 => have := HB9.out.size; simp; omega
          intro v' w8 ho8 hb8 hs8
          have HO8 := Lib.hid (show Rn.Own encR w8 w1.heap.size 69 v' (beL (l.take (k + 1))) from by rw [HTK.out]; exact ho8)
          have HB8 := Lib.hid ((HB9.out.alloc HB9.out.size _).trans hb8)
          clear ho8 hb8 hs8
          go_wp2
          go_roundw
          case rel => exact ⟨k + 1, by have := HKB.out; omega, by go_num, HO8.out, HB8.out⟩
          case measure => simp [intOf]; have := HKB.out; omega
      · have hlt' : ¬ (k : Int) < (l.length : Int) := by omega
        have ho := HO.out
        rw [List.take_of_length_le (by omega)] at ho
        have HO2 := Lib.hid ho
        clear ho
        go_wp2
        go_ret
        exact own_rows HO2.out (HB.out.trans (HS.out.mono HB.out.size))
/- rows of integers -/
def SiRel (X : List Int) (w : World) (i : Value) (wr : World) : Prop := ∃ k : Nat, k ≤ X.length ∧ i = .int .i64 (k : Nat) ∧ Below w.heap.size w wr
set_option maxHeartbeats 1000000 in
theorem same_ints (A B : Option Addr) (c d : Nat) (X : List Int) (w : World) (hA : Rn.At encI w A X) (hB : Rn.At encI w B X) (hl : X.length ≤ 300) :
    Calls Tryz.prog 10 #[.slice A X.length c, .slice B X.length d] w fun e w' => e = .returned (.bool true) ∧ Below w.heap.size w w' := by
  have HA := Lib.hid hA
  have HB := Lib.hid hB
  have hN : (X.length : Int) ≤ 300 := by omega
  clear hA hB
  go_enter Tryz.func10, Tryz.ntmps10
  go_wp2
  go_loopw [5] (SiRel X w) (fun i _ => X.length - (intOf i).toNat)
  case atStart => exact ⟨0, Nat.zero_le _, rfl, Below.refl _ _⟩
  case round =>
    obtain ⟨k, hk, rfl, hb⟩ := hrel
    have HW := Lib.hid hb
    clear hb
    by_cases hlt : k < X.length
    · have hx : X[k]? = some X[k] := List.getElem?_eq_getElem hlt
      generalize X[k] = x at hx
      obtain ⟨ad, rfl, c0⟩ := atI1 (HA.out.below HW.out (Nat.le_refl _)) hx
      obtain ⟨ad', rfl, d0⟩ := atI1 (HB.out.below HW.out (Nat.le_refl _)) hx
      clear hx
      have hlt' : (k : Int) < (X.length : Int) := by omega
      have h0 : (0 : Int) ≤ (k : Int) := by omega
      go_wp2
      go_quiet (fail)
      go_wp2
      go_round
      case rel => exact ⟨k + 1, by omega, by go_num, HW.out.trans (Tx.below_drewN _ _ _)⟩
      case measure => simp [intOf]; omega
    · have hlt' : ¬ (k : Int) < (X.length : Int) := by omega
      go_wp2
      go_ret
      exact ⟨rfl, HW.out⟩
end Go.Proofs.YtaonepbongbhoaaGreat.Hi
