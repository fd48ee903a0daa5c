/-
  What the document's Entries is made of: the step of an event, an entry's box with its two rows that grow.
-/
import Derived.Test.YtcfdndppkpjleaaHRef4
import Derived.Test.YtcfdndppkpjleaaRepEnts
namespace Go.Proofs.Ytcfdndppkpjleaa.Hi
open Go.RowKit
open Tx (i64p Sp SlAt)
open Rp (Ent Xc encX OwnI ItAt RdX Off BoxX)
abbrev encS : Rn.Enc Sp where
  n := 4
  pos := by decide
  cells s := Tx.cellsOf s
  len _ := rfl
  one v u hu := by simp [Tx.cellsOf] at hu; rcases hu with rfl | rfl | rfl | rfl <;> rfl
theorem vtS : Rn.VT encS 75 89 := by
  obtain ⟨i0, hi, hz0, hz1, hz2⟩ := info_parts Tx.rstep_info
  exact ⟨Try.underlying75, i0, _, hi, hz0, hz1, by rw [hz2]; decide, rfl⟩
theorem flat_S (l : List Sp) : Rn.flat encS l = Tx.flat l := rfl
theorem own_sl {W : World} {base : Nat} {A : Option Addr} {n c : Nat} {l : List Sp} (h : Rn.Own encS W base 89 (.slice A n c) l) (hok : ∀ s ∈ l, s.ok) : SlAt W A c l ∧ Tx.Fr base A := by
  rcases h.2 with ⟨e, h0⟩ | ⟨g, cap, cur, e, hb, hg, hn, hm, hs, ht⟩
  · obtain ⟨rfl, _, rfl⟩ := Value.slice.inj e
    exact ⟨⟨⟨fun hl => by omega, hok⟩, by omega, by unfold maxLen; omega⟩, fun ad e => by cases e⟩
  · obtain ⟨rfl, _, rfl⟩ := Value.slice.inj e
    exact ⟨⟨⟨fun _ => ⟨_, rfl, World.ownsRow.cells h rfl⟩, hok⟩, hn, hm⟩, fun ad e => by cases e; exact hb⟩
def stA (s : Sp) : Array Value := #[.int .i64 s.x, .int .i64 s.k, .int .i64 s.n, .bool s.wr]
theorem stA_one (s : Sp) : (stA s).all (·.oneCell') = true := by
  rw [Array.all_eq_true']
  intro u hu
  simp [stA] at hu
  rcases hu with rfl | rfl | rfl | rfl <;> rfl
theorem rstep_size (s : Sp) : (Try.prog.info? 89).map (·.size) = some (stA s).size := by
  obtain ⟨i0, hi, hz0, hz1, hz2⟩ := info_parts Tx.rstep_info
  rw [hi, Option.map_some, hz1]; rfl
set_option maxHeartbeats 1000000 in
theorem step_r (e : Ev) (b : Bool) (hb : (e.kd == 2) = b) (w : World) :
    Calls Try.prog 41 #[.agg (evA e)] w fun r w' => r = .returned (.agg (stA ⟨e.x, e.k, e.n, b⟩)) ∧ Below w.heap.size w w' := by
  unfold evA
  have h2 : ((w.alloc (.cells #[.int .i64 e.kd, .int .i64 e.id, .int .i64 e.x, .int .i64 e.k, .int .i64 e.n] 70)).alloc (.cells #[.int .i64 0, .int .i64 0, .int .i64 0, .bool false] 89)).heap[w.heap.size + 1]? = some (.cells #[.int .i64 0, .int .i64 0, .int .i64 0, .bool false] 89 (0, 0)) := heap_alloc2_new _ _ _
  have hb2 : Below w.heap.size w ((w.alloc (.cells #[.int .i64 e.kd, .int .i64 e.id, .int .i64 e.x, .int .i64 e.k, .int .i64 e.n] 70)).alloc (.cells #[.int .i64 0, .int .i64 0, .int .i64 0, .bool false] 89)) := (Rn.below_new _ _).alloc (by simp) _
  have H2 := Lib.hid h2
  have HB2 := Lib.hid hb2
  clear h2 hb2
  go_enter Try.func41, Try.ntmps41
  go_wp2_with (refine wpList_store_row rfl 89 (.tmp 2) (.tmp 10) rfl (w.heap.size + 1) (stA ⟨e.x, e.k, e.n, b⟩) rfl rfl 89 _ H2.out (rstep_size _) rfl (stA_one _) ?_)
  refine bodyPost_ret (results_cell_row rfl _ _ (w.heap.size + 1) 89 _ (0, 0) _ rfl (setRow_heap _ _ _ _ _ _ H2.out) Try.underlying89 rfl (rstep_size _)) rfl ⟨rfl, ?_⟩
  exact setRow_below HB2.out (by omega)
/- an entry as it grows -/
theorem grown_set (V : World) (g i : Nat) (u : Value) : V.grownBy (V.setCell ⟨g, i, none⟩ u) (some g) := ⟨rfl, rfl, rfl, by simp [World.setCell], fun k _ hne => Below.heap_setCell _ _ _ _ (fun e => hne (by rw [e]))⟩
structure NE (wr : World) (L : List Ev) (q r0 : Nat) (x : Xc) (W : World) : Prop where
  bel : Below wr.heap.size wr W
  box : BoxX W wr.heap.size 77 x
  mt : W.heap[q]? = some (.cells (metA L) 86 (0, 0))
  rd : Rn.Own encS W r0 89 (.slice x.A x.e.rd.length x.c) x.e.rd
  wt : Rn.Own encS W r0 89 (.slice x.B x.e.wt.length x.d) x.e.wt
  ne : ∀ a, (Value.slice x.A x.e.rd.length x.c).ownBlock = some a → (Value.slice x.B x.e.wt.length x.d).ownBlock ≠ some a
  lt : wr.heap.size < q ∧ q < r0 ∧ r0 ≤ W.heap.size
section
variable {wr : World} {L : List Ev} {q r0 : Nat} {x : Xc}
theorem NE.below {W W' : World} (h : NE wr L q r0 x W) (hb : Below W.heap.size W W') : NE wr L q r0 x W' :=
  ⟨h.bel.trans (hb.mono h.bel.size), h.box.below hb h.box.lt, (hb.block q (Array.getElem?_eq_some_iff.1 h.mt).1).trans h.mt, h.rd.below hb (Nat.le_refl _), h.wt.below hb (Nat.le_refl _), h.ne, h.lt.1, h.lt.2.1, Nat.le_trans h.lt.2.2 hb.size⟩
theorem NE.drew {W : World} (h : NE wr L q r0 x W) : NE wr L q r0 x W.drew := h.below (Below.refl _ _).drew
theorem box_set {W : World} {b : Nat} {t : TypeId} {x y : Xc} (h : BoxX W b t x) (i : Nat) (u : Value) (he : (Rp.entA x).setIfInBounds i u = Rp.entA y) : BoxX (W.setCell ⟨b, i, none⟩ u) b t y := ⟨by rw [heap_set h.is, he]⟩
theorem NE.addR {W w5 : World} {v' : Value} {s : Sp} (h : NE wr L q r0 x W) (ho : Rn.Own encS w5 r0 89 v' (x.e.rd ++ [s])) (hg : W.grownBy w5 (Value.slice x.A x.e.rd.length x.c).ownBlock) (hl : v'.ownBlock = (Value.slice x.A x.e.rd.length x.c).ownBlock ∨ v'.ownBlock = some W.heap.size) :
    ∃ A' c', v' = .slice A' (x.e.rd ++ [s]).length c' ∧ NE wr L q r0 ⟨⟨x.e.id, x.e.com, x.e.ovr, x.e.rd ++ [s], x.e.wt⟩, A', c', x.B, x.d⟩ (w5.setCell ⟨wr.heap.size, 3, none⟩ v') ∧ w5.cell? ⟨wr.heap.size, 3, none⟩ = some (.slice x.A x.e.rd.length x.c) ∧ w5.frozen? ⟨wr.heap.size, 3, none⟩ = false := by
  obtain ⟨A', c', rfl, _⟩ := ho.slice
  have hw1 : Below r0 W w5 := Rp.grown_below h.rd hg h.lt.2.2
  have hbox : BoxX w5 wr.heap.size 77 x := ⟨(hw1.block _ (by have := h.lt; omega)).trans h.box.is⟩
  have hwt : Rn.Own encS w5 r0 89 (.slice x.B x.e.wt.length x.d) x.e.wt := World.ownsRow.kept (row := (Value.slice x.A x.e.rd.length x.c).ownBlock) h.wt hg (by
    cases hB : (Value.slice x.B x.e.wt.length x.d).ownBlock with
    | none => exact .inl rfl
    | some b => exact .inr (fun e => h.ne b e.symm hB))
  have hset := grown_set w5 wr.heap.size 3 (.slice A' (x.e.rd ++ [s]).length c')
  have hlow : ∀ {v : Value} {l : List Sp}, Rn.Own encS w5 r0 89 v l → Rn.Own encS (w5.setCell ⟨wr.heap.size, 3, none⟩ (.slice A' (x.e.rd ++ [s]).length c')) r0 89 v l := fun {v l} hh => World.ownsRow.kept (row := some wr.heap.size) hh hset (by
    cases hv : v.ownBlock with
    | none => exact .inl rfl
    | some b => exact .inr (fun e => by have := (World.ownsRow.lt hh b hv).1; have := h.lt; have := Option.some.inj e; omega))
  refine ⟨A', c', rfl, ⟨?_, ?_, ?_, hlow ho, hlow hwt, ?_, h.lt.1, h.lt.2.1, ?_⟩, hbox.c3, hbox.free 3⟩
  · exact (h.bel.trans (hw1.mono (by have := h.lt; omega))).setCell (by simp) _
  · exact box_set hbox 3 _ rfl
  · rw [Below.heap_setCell _ _ _ _ (by have := h.lt; simp; omega)]
    exact (hw1.block q h.lt.2.1).trans h.mt
  · intro a ha hb
    rcases hl with hl | hl
    · rw [hl] at ha; exact h.ne a ha hb
    · rw [hl] at ha
      have := (World.ownsRow.lt h.wt a hb).2
      have := Option.some.inj ha
      omega
  · have := hw1.size; have := h.lt.2.2; simp [World.setCell]; omega
theorem NE.addW {W w5 : World} {v' : Value} {s : Sp} (h : NE wr L q r0 x W) (ho : Rn.Own encS w5 r0 89 v' (x.e.wt ++ [s])) (hg : W.grownBy w5 (Value.slice x.B x.e.wt.length x.d).ownBlock) (hl : v'.ownBlock = (Value.slice x.B x.e.wt.length x.d).ownBlock ∨ v'.ownBlock = some W.heap.size) :
    ∃ B' d', v' = .slice B' (x.e.wt ++ [s]).length d' ∧ NE wr L q r0 ⟨⟨x.e.id, x.e.com, x.e.ovr, x.e.rd, x.e.wt ++ [s]⟩, x.A, x.c, B', d'⟩ (w5.setCell ⟨wr.heap.size, 4, none⟩ v') ∧ w5.cell? ⟨wr.heap.size, 4, none⟩ = some (.slice x.B x.e.wt.length x.d) ∧ w5.frozen? ⟨wr.heap.size, 4, none⟩ = false := by
  obtain ⟨B', d', rfl, _⟩ := ho.slice
  have hw1 : Below r0 W w5 := Rp.grown_below h.wt hg h.lt.2.2
  have hbox : BoxX w5 wr.heap.size 77 x := ⟨(hw1.block _ (by have := h.lt; omega)).trans h.box.is⟩
  have hrd : Rn.Own encS w5 r0 89 (.slice x.A x.e.rd.length x.c) x.e.rd := World.ownsRow.kept (row := (Value.slice x.B x.e.wt.length x.d).ownBlock) h.rd hg (by
    cases hA : (Value.slice x.A x.e.rd.length x.c).ownBlock with
    | none => exact .inl rfl
    | some a => exact .inr (fun e => h.ne a hA e.symm))
  have hset := grown_set w5 wr.heap.size 4 (.slice B' (x.e.wt ++ [s]).length d')
  have hlow : ∀ {v : Value} {l : List Sp}, Rn.Own encS w5 r0 89 v l → Rn.Own encS (w5.setCell ⟨wr.heap.size, 4, none⟩ (.slice B' (x.e.wt ++ [s]).length d')) r0 89 v l := fun {v l} hh => World.ownsRow.kept (row := some wr.heap.size) hh hset (by
    cases hv : v.ownBlock with
    | none => exact .inl rfl
    | some b => exact .inr (fun e => by have := (World.ownsRow.lt hh b hv).1; have := h.lt; have := Option.some.inj e; omega))
  refine ⟨B', d', rfl, ⟨?_, ?_, ?_, hlow hrd, hlow ho, ?_, h.lt.1, h.lt.2.1, ?_⟩, hbox.c4, hbox.free 4⟩
  · exact (h.bel.trans (hw1.mono (by have := h.lt; omega))).setCell (by simp) _
  · exact box_set hbox 4 _ rfl
  · rw [Below.heap_setCell _ _ _ _ (by have := h.lt; simp; omega)]
    exact (hw1.block q h.lt.2.1).trans h.mt
  · intro a ha hb
    rcases hl with hl | hl
    · rw [hl] at hb; exact h.ne a ha hb
    · rw [hl] at hb
      have := (World.ownsRow.lt h.rd a ha).2
      have := Option.some.inj hb
      omega
  · have := hw1.size; have := h.lt.2.2; simp [World.setCell]; omega
end
/- what is in them behind so many variables -/
def rdK (L : List Ev) (c : Cr) (k : Nat) : List Sp := Tx.rise (fun x => (c.rd x).map (stOf L x)) k
def wtK (L : List Ev) (c : Cr) (k : Nat) : List Sp := Tx.rise (fun x => if c.com = true then (c.wr x).map (stOf L x) else none) k
def entK (L : List Ev) (i : Nat) (c : Cr) (k : Nat) : Ent := ⟨(i : Int) + 1, c.com, over c, rdK L c k, wtK L c k⟩
theorem wtK_no {L : List Ev} {c : Cr} (h : c.com = false) (k : Nat) : wtK L c k = [] := by
  unfold wtK
  induction k with
  | zero => rfl
  | succ k ih => rw [Tx.rise_succ_none (by simp [h]), ih]
theorem entK_all (L : List Ev) (i : Nat) (c : Cr) : entK L i c 64 = entC L i c := by
  unfold entK entC rdK stepsF
  congr 1
  cases hm : c.com with
  | true =>
    unfold wtK
    rw [if_pos rfl]
    exact Tx.rise_congr fun x _ => by rw [if_pos hm]
  | false => rw [wtK_no hm]; rfl
theorem rd_none {L : List Ev} {c : Cr} {k : Nat} (h : c.rd (k : Int) = none) : rdK L c (k + 1) = rdK L c k := Tx.rise_succ_none (by rw [h]; rfl)
theorem rd_some {L : List Ev} {c : Cr} {k n : Nat} {e : Ev} (h : c.rd (k : Int) = some n) (he : L[n]? = some e) (hx : e.x = (k : Int)) : rdK L c (k + 1) = rdK L c k ++ [⟨e.x, e.k, e.n, e.kd == 2⟩] := Tx.rise_succ_some (by
  rw [h]; unfold stOf
  rw [Option.map_some, he, hx]
  congr 2)
theorem wt_none {L : List Ev} {c : Cr} {k : Nat} (h : (if c.com = true then nI (c.wr (k : Int)) else -1) < 0) : wtK L c (k + 1) = wtK L c k := Tx.rise_succ_none (by
  cases hm : c.com with
  | false => rfl
  | true =>
    rw [hm, if_pos rfl] at h
    cases hw : c.wr (k : Int) with
    | none => rfl
    | some n =>
      rw [hw] at h
      change ((n : Nat) : Int) < 0 at h
      omega)
theorem wt_some {L : List Ev} {c : Cr} {k n : Nat} {e : Ev} (hm : c.com = true) (h : c.wr (k : Int) = some n) (he : L[n]? = some e) (hx : e.x = (k : Int)) : wtK L c (k + 1) = wtK L c k ++ [⟨e.x, e.k, e.n, e.kd == 2⟩] := Tx.rise_succ_some (by
  rw [if_pos hm, h]; unfold stOf
  rw [Option.map_some, he, hx]
  congr 2)
end Go.Proofs.Ytcfdndppkpjleaa.Hi
