/-
  The contract of Entries.
-/
import Derived.Test.YtcfdndppkpjleaaHSteps
import Derived.Deep.MidRow
namespace Go.Proofs.Ytcfdndppkpjleaa.Hi
open Go.RowKit
open Tx (i64p right Sp SlAt)
open Az
open Rp (Ent Xc encX OwnI ItAt RdX Off)
theorem crL_okL {L : List Ev} (hl : L.length ≤ 2000) : ∀ c ∈ crL L, Okc L.length c := by
  unfold crL
  cases h : crs L with
  | none => simp
  | some l => exact (run_ok (crs_some h).2 hl).1
theorem Okc.rdL {L : List Ev} {c : Cr} (h : Okc L.length c) : FitL L c.rd := fun x k e => by have := h.rd x k e; exact ⟨this.1, this.2.1, this.2.2.2.1⟩
theorem Okc.wrL {L : List Ev} {c : Cr} (h : Okc L.length c) : FitL L c.wr := fun x k e => by have := h.wr x k e; exact ⟨this.1, this.2.1, this.2.2.2.1⟩
theorem stepsF_len (L : List Ev) (f : Int → Option Nat) : (stepsF L f).length ≤ 64 := Tx.rise_len _ _
/-- what a transaction did. -/
def entC (L : List Ev) (i : Nat) (c : Cr) : Ent := ⟨(i : Int) + 1, c.com, over c, stepsF L c.rd, if c.com then stepsF L c.wr else []⟩
def zeroE : Ent := ⟨0, false, false, [], []⟩
def zeroX : Xc := ⟨zeroE, none, 0, none, 0⟩
def entF (L : List Ev) (l : List Cr) (i : Nat) : Ent := match l[i]? with
  | some c => entC L i c
  | none => zeroE
def entL (L : List Ev) : List Ent := (List.range (crL L).length).map (entF L (crL L))
theorem entL_few (L : List Ev) : Rp.few (entL L) := fun e he => by
  obtain ⟨i, _, rfl⟩ := List.mem_map.1 he
  unfold entF
  split
  · refine ⟨Nat.le_trans (stepsF_len _ _) (by decide), ?_⟩
    unfold entC
    dsimp only
    split
    · exact Nat.le_trans (stepsF_len _ _) (by decide)
    · exact Nat.zero_le _
  · exact ⟨Nat.zero_le _, Nat.zero_le _⟩
theorem steps_s (A : Option Addr) (c : Nat) (L : List Ev) (b n sz : Nat) (f : Int → Option Nat) (w : World) (h : Rn.At encE w A L) (hok : ∀ e ∈ L, e.ok) (hl : L.length ≤ 2000) (hm : NM w b n sz f) (hf : FitL L f) (hsz : sz ≤ 4096) :
    Calls Try.prog 35 #[.slice A L.length c, .map (some b)] w fun r w' => ∃ B d, r = .returned (.slice B (stepsF L f).length d) ∧ SlAt w' B d (stepsF L f) ∧ Tx.Fr w.heap.size B ∧ Below w.heap.size w w' := by
  refine (steps_any A c L b n sz f w h hok hl hm hf hsz).mono ?_
  rintro r w' ⟨v, rfl, ho, hb⟩
  rcases ho.row.2 with ⟨rfl, h0⟩ | ⟨g, cap, cur, rfl, hbase, hg, hn, hmm, hs, ht⟩
  · exact ⟨none, 0, by rw [h0], ⟨⟨fun hl => by omega, ho.ok⟩, by omega, by unfold maxLen; omega⟩, (fun ad e => by cases e), hb⟩
  · exact ⟨_, cap, rfl, ⟨⟨fun _ => ⟨_, rfl, ho.row.cells rfl⟩, ho.ok⟩, hn, hmm⟩, (fun ad e => by cases e; exact hbase), hb⟩
/-- a map's entries are as many as its bound. -/
theorem NM.sz {W : World} {b n sz : Nat} {f : Int → Option Nat} (h : NM W b n sz f) : sz ≤ n := by
  obtain ⟨D, ⟨es, clock, hh, F, hs, hD⟩, hr⟩ := h
  rw [← hr.size, hD]
  simp only [Maps.size, length_sorted, List.length_map, Array.length_toList]
  exact hs
/-- the course's box, the row of entries, the courses, the events. -/
structure NSe (w wr : World) (A B : Option Addr) (L : List Ev) (X : List Co) (g : Nat) (x : Co) (Y : List Xc) (E : List Ent) (W : World) : Prop where
  c0 : W.cell? ⟨wr.heap.size, 0, none⟩ = some (.complex .f64 (cr x.c) (ci x.c))
  c1 : W.cell? ⟨wr.heap.size, 1, none⟩ = some (.bool x.c.com)
  c2 : W.cell? ⟨wr.heap.size, 2, none⟩ = some (.map (some x.rb))
  c3 : W.cell? ⟨wr.heap.size, 3, none⟩ = some (.map (some x.wb))
  rc : RdC W B X
  ow : OwnI 67 W g (.slice (some ⟨g, 0, none⟩) X.length X.length) Y E
  h : Rn.At encE W A L
  bel : Below w.heap.size w W
section
variable {w wr : World} {A B : Option Addr} {L : List Ev} {X : List Co} {g : Nat} {x : Co} {Y : List Xc} {E : List Ent}
theorem NSe.below {W W' : World} (h : NSe w wr A B L X g x Y E W) (hb : Below W.heap.size W W') : NSe w wr A B L X g x Y E W' :=
  ⟨(hb.cell (Rn.cell_lt h.c0)).trans h.c0, (hb.cell (Rn.cell_lt h.c1)).trans h.c1, (hb.cell (Rn.cell_lt h.c2)).trans h.c2, (hb.cell (Rn.cell_lt h.c3)).trans h.c3, h.rc.below hb, h.ow.below hb, h.h.below hb (Nat.le_refl _), h.bel.trans (hb.mono h.bel.size)⟩
theorem NSe.drew {W : World} (h : NSe w wr A B L X g x Y E W) : NSe w wr A B L X g x Y E W.drew := h.below (Below.refl _ _).drew
end
theorem ent_size : (Try.prog.info? 67).map (·.size) = some 5 := by kernel_rfl
/-- an entry is written over. -/
theorem own_ent {W : World} {g n : Nat} {Y : List Xc} {E : List Ent} {j : Nat} {y : Xc} {e0 : Ent} (h : OwnI 67 W g (.slice (some ⟨g, 0, none⟩) n n) Y E) (hj : j < E.length) (he0 : y.e = e0) (hy : RdX W y) (hof : Off (some g) y) :
    OwnI 67 (W.setCells g (j * 5) [.int .i64 y.e.id, .bool y.e.com, .bool y.e.ovr, .slice y.A y.e.rd.length y.c, .slice y.B y.e.wt.length y.d]) g (.slice (some ⟨g, 0, none⟩) n n) (Y.set j y) (E.set j e0) ∧
      Below g W (W.setCells g (j * 5) [.int .i64 y.e.id, .bool y.e.com, .bool y.e.ovr, .slice y.A y.e.rd.length y.c, .slice y.B y.e.wt.length y.d]) ∧ W.there g (j * 5) 5 := by
  subst he0
  have hjy : j < Y.length := by rw [h.len]; exact hj
  have hz : Y[j]? = some Y[j] := List.getElem?_eq_getElem hjy
  generalize Y[j] = z at hz
  have p0 := h.row.put hz 0 (by decide) (.int .i64 y.e.id) (v' := ⟨⟨y.e.id, z.e.com, z.e.ovr, z.e.rd, z.e.wt⟩, z.A, z.c, z.B, z.d⟩) rfl
  have q : ∀ u, (Y.set j u)[j]? = some u := fun u => by rw [List.getElem?_set_self hjy]
  have p1 := p0.put (q _) 1 (by decide) (.bool y.e.com) (v' := ⟨⟨y.e.id, y.e.com, z.e.ovr, z.e.rd, z.e.wt⟩, z.A, z.c, z.B, z.d⟩) rfl
  rw [List.set_set] at p1
  have p2 := p1.put (q _) 2 (by decide) (.bool y.e.ovr) (v' := ⟨⟨y.e.id, y.e.com, y.e.ovr, z.e.rd, z.e.wt⟩, z.A, z.c, z.B, z.d⟩) rfl
  rw [List.set_set] at p2
  have p3 := p2.put (q _) 3 (by decide) (.slice y.A y.e.rd.length y.c) (v' := ⟨⟨y.e.id, y.e.com, y.e.ovr, y.e.rd, z.e.wt⟩, y.A, y.c, z.B, z.d⟩) rfl
  rw [List.set_set] at p3
  have p4 := p3.put (q _) 4 (by decide) (.slice y.B y.e.wt.length y.d) (v' := y) rfl
  rw [List.set_set] at p4
  have hb : Below g W (W.setCells g (j * 5) [.int .i64 y.e.id, .bool y.e.com, .bool y.e.ovr, .slice y.A y.e.rd.length y.c, .slice y.B y.e.wt.length y.d]) :=
    (((((Below.refl g W).setCell (Nat.le_refl _) _).setCell (Nat.le_refl _) _).setCell (Nat.le_refl _) _).setCell (Nat.le_refl _) _).setCell (Nat.le_refl _) _
  have hgr : W.grownBy (W.setCells g (j * 5) [.int .i64 y.e.id, .bool y.e.com, .bool y.e.ovr, .slice y.A y.e.rd.length y.c, .slice y.B y.e.wt.length y.d]) (some g) := by
    have hh : ∀ (V : World) (i : Nat) (u : Value), V.grownBy (V.setCell ⟨g, i, none⟩ u) (some g) := fun V i u => by
      refine ⟨rfl, rfl, rfl, by simp [World.setCell], fun k hk hne => Below.heap_setCell _ _ _ _ (fun e => hne (by rw [e]))⟩
    have t : ∀ {V1 V2 V3 : World}, V1.grownBy V2 (some g) → V2.grownBy V3 (some g) → V1.grownBy V3 (some g) := fun a b => a.andThen b (fun _ hj => .inr hj)
    exact t (t (t (t (hh _ _ _) (hh _ _ _)) (hh _ _ _)) (hh _ _ _)) (hh _ _ _)
  have hoff : ∀ u ∈ Y.set j y, RdX W u ∧ Off (some g) u := fun u hu => by
    rcases List.mem_or_eq_of_mem_set hu with hu | rfl
    · exact ⟨h.rd u hu, h.off u hu⟩
    · exact ⟨hy, hof⟩
  refine ⟨⟨p4, by rw [List.map_set, h.es], fun u hu => (hoff u hu).1.grown hgr (hoff u hu).2, fun u hu => (hoff u hu).2⟩, hb, fun i hi => ?_⟩
  have hc := h.row.get hz i hi
  have hc' : W.cell? ⟨g, j * 5 + i, none⟩ = (encX.cells z)[i]? := hc
  refine ⟨?_, h.row.free (j * 5 + i)⟩
  rw [hc', List.getElem?_eq_getElem (by rw [encX.len]; exact hi)]; rfl
theorem cell_off {W : World} {p : Addr} {v : Value} {g o : Nat} {l : List Value} (_ : Below g W (W.setCells g o l)) (h : W.cell? p = some v) (hne : p.block ≠ g) : (W.setCells g o l).cell? p = some v := by
  rw [World.cell?_setCells_out g l o W p (fun e => absurd e hne)]; exact h
def EnRel (w : World) (A B : Option Addr) (L : List Ev) (X : List Co) (g : Nat) (i : Value) (wr : World) : Prop :=
  ∃ (k : Nat) (Y : List Xc), k ≤ X.length ∧ i = .int .i64 k ∧ RdC wr B X ∧ OwnI 67 wr g (.slice (some ⟨g, 0, none⟩) X.length X.length) Y (fill (entF L (cs X)) zeroE X.length k) ∧ Rn.At encE wr A L ∧ Below w.heap.size w wr
def ItS (E : List Ent) (w : World) (r : Ending) (w' : World) : Prop := ∃ B d Y, r = .returned (.slice B E.length d) ∧ E.length ≤ d ∧ d ≤ maxLen ∧ ItAt w' B Y E ∧ Below w.heap.size w w'
theorem sl_nil (w : World) : SlAt w none 0 [] := ⟨⟨fun h => by simp at h, by simp⟩, Nat.le_refl _, by decide⟩
theorem steps_m (A : Option Addr) (c : Nat) (L : List Ev) (b : Nat) (f : Int → Option Nat) (w : World) (h : Rn.At encE w A L) (hok : ∀ e ∈ L, e.ok) (hl : L.length ≤ 2000) (hm : ∃ sz, NM w b 2000 sz f) (hf : FitL L f) :
    Calls Try.prog 35 #[.slice A L.length c, .map (some b)] w fun r w' => ∃ B d, r = .returned (.slice B (stepsF L f).length d) ∧ SlAt w' B d (stepsF L f) ∧ Tx.Fr w.heap.size B ∧ Below w.heap.size w w' := by
  obtain ⟨sz, hm⟩ := hm
  exact steps_s A c L b 2000 sz f w h hok hl hm hf (by have := hm.sz; omega)
theorem RdC.keep {W W' : World} {A : Option Addr} {X : List Co} {g : Nat} (h : RdC W A X) (hb : Below g W W') (h1 : ∀ ad, A = some ad → ad.block < g) (h2 : ∀ x ∈ X, x.rb < g ∧ x.wb < g) : RdC W' A X :=
  ⟨⟨fun hl => by
    obtain ⟨ad, e, hc⟩ := h.row.cell hl
    exact ⟨ad, e, fun j u hu => (hb.cell (by rw [Rn.add_block]; exact h1 ad e)).trans (hc j u hu)⟩⟩, h.gc, fun x hx => by
    obtain ⟨⟨s1, m1⟩, s2, m2⟩ := h.mp x hx
    exact ⟨⟨s1, m1.keep hb (h2 x hx).1⟩, s2, m2.keep hb (h2 x hx).2⟩⟩
theorem RdC.lt {W : World} {A : Option Addr} {X : List Co} (h : RdC W A X) : ∀ x ∈ X, x.rb < W.heap.size ∧ x.wb < W.heap.size := fun x hx => by
  obtain ⟨⟨s1, m1⟩, s2, m2⟩ := h.mp x hx
  exact ⟨m1.lt, m2.lt⟩
theorem step_store_mid {w : World} {ops : Array Oper} {op : Oper} {a : Act} {K : Act → World → Prop} {Q : Exit → Act → World → Prop} {F : Prop} (hgd : op.guard = none) (ty : TypeId) (x y : Operand) (ho : op.op = .store ty x y) (hds : op.dst = none)
    (b o : Nat) (cells : Array Value) (hx : a.eval x = .pointer (some ⟨b, o, none⟩)) (hy : a.eval y = .agg cells) (ht : w.there b o cells.size) (hi : (Try.prog.info? ty).map (·.size) = some cells.size) (h1 : cells.all (·.oneCell') = true)
    (hK : K a (w.setCells b o cells.toList)) : if Region.wanted op (yielded ops a.tmps) = true then Oper.wp Try.prog op a w K Q else F := by
  have hw : Region.wanted op (yielded ops a.tmps) = true := by simp [Region.wanted, hgd]
  rw [if_pos hw]
  refine wp_store_mid ty x y ho b o cells hx hy ht hi h1 ?_
  rw [hds]; exact hK
theorem ent_one (y : Xc) : (#[.int .i64 y.e.id, .bool y.e.com, .bool y.e.ovr, .slice y.A y.e.rd.length y.c, .slice y.B y.e.wt.length y.d] : Array Value).all (·.oneCell') = true := by
  rw [Array.all_eq_true']
  intro u hu
  simp at hu
  rcases hu with rfl | rfl | rfl | rfl | rfl <;> rfl
/-- behind the store of an entry. -/
theorem NSe.put {w wr : World} {A B : Option Addr} {L : List Ev} {X : List Co} {g : Nat} {x : Co} {Y : List Xc} {E : List Ent} {W : World} {k : Nat} {y : Xc} {e0 : Ent} (h : NSe w wr A B L X g x Y E W) (h0 : Rn.At encE w A L) (hk : k < E.length) (he : y.e = e0) (hy : RdX W y) (hof : Off (some g) y)
    (hg : w.heap.size ≤ g) (hgw : g < wr.heap.size) (h1 : ∀ ad, B = some ad → ad.block < g) (h2 : ∀ x ∈ X, x.rb < g ∧ x.wb < g) :
    NSe w wr A B L X g x (Y.set k y) (E.set k e0) (W.setCells g (k * 5) [.int .i64 y.e.id, .bool y.e.com, .bool y.e.ovr, .slice y.A y.e.rd.length y.c, .slice y.B y.e.wt.length y.d]) ∧ W.there g (k * 5) 5 := by
  obtain ⟨o1, hb, ht⟩ := own_ent h.ow hk he hy hof
  have hbw := h.bel.trans (hb.mono hg)
  have hne : wr.heap.size ≠ g := by omega
  exact ⟨⟨cell_off hb h.c0 hne, cell_off hb h.c1 hne, cell_off hb h.c2 hne, cell_off hb h.c3 hne, h.rc.keep hb h1 h2, o1, h0.below hbw (Nat.le_refl _), hbw⟩, ht⟩
/-- the writes of an entry are stored. -/
theorem own_wr {w wr : World} {A B : Option Addr} {L : List Ev} {X : List Co} {g : Nat} {x : Co} {Y : List Xc} {E : List Ent} {W : World} {k : Nat} {e0 : Ent} {A1 A2 : Option Addr} {d1 d2 : Nat} {wt : List Sp} (h : NSe w wr A B L X g x Y E W) (hy : Y[k]? = some ⟨⟨e0.id, e0.com, e0.ovr, e0.rd, []⟩, A1, d1, none, 0⟩)
    (hr : SlAt W A1 d1 e0.rd) (hw : SlAt W A2 d2 wt) (f1 : ∀ a1, A1 = some a1 → g < a1.block) (f2 : ∀ a1, A2 = some a1 → g < a1.block) (h0 : Rn.At encE w A L) (hg : w.heap.size ≤ g) (hgw : g < wr.heap.size) (h1 : ∀ ad, B = some ad → ad.block < g) (h2 : ∀ x ∈ X, x.rb < g ∧ x.wb < g) :
    NSe w wr A B L X g x (Y.set k ⟨⟨e0.id, e0.com, e0.ovr, e0.rd, wt⟩, A1, d1, A2, d2⟩) (E.set k ⟨e0.id, e0.com, e0.ovr, e0.rd, wt⟩) (W.setCell ⟨g, k * 5 + 4, none⟩ (.slice A2 wt.length d2)) := by
  have p := h.ow.row.put hy 4 (by decide) (.slice A2 wt.length d2) (v' := ⟨⟨e0.id, e0.com, e0.ovr, e0.rd, wt⟩, A1, d1, A2, d2⟩) rfl
  have hb : Below g W (W.setCell ⟨g, k * 5 + 4, none⟩ (.slice A2 wt.length d2)) := (Below.refl g W).setCell (Nat.le_refl _) _
  have hgr : W.grownBy (W.setCell ⟨g, k * 5 + 4, none⟩ (.slice A2 wt.length d2)) (some g) := ⟨rfl, rfl, rfl, by simp [World.setCell], fun q hq hne => Below.heap_setCell _ _ _ _ (fun e => hne (by rw [e]))⟩
  have hbw := h.bel.trans (hb.mono hg)
  have hne : g ≠ wr.heap.size := by omega
  have hc : ∀ (i : Nat) (v : Value), W.cell? ⟨wr.heap.size, i, none⟩ = some v → (W.setCell ⟨g, k * 5 + 4, none⟩ (.slice A2 wt.length d2)).cell? ⟨wr.heap.size, i, none⟩ = some v := fun i v hv =>
    (World.cell?_of_block (w := W) (a := ⟨wr.heap.size, i, none⟩) (Below.heap_setCell _ _ _ _ (Ne.symm hne))).trans hv
  have hoff : ∀ u ∈ Y.set k ⟨⟨e0.id, e0.com, e0.ovr, e0.rd, wt⟩, A1, d1, A2, d2⟩, RdX W u ∧ Off (some g) u := fun u hu => by
    rcases List.mem_or_eq_of_mem_set hu with hu | rfl
    · exact ⟨h.ow.rd u hu, h.ow.off u hu⟩
    · exact ⟨⟨hr, hw⟩, fun a1 e _ e2 => (by have := f1 a1 e; have := Option.some.inj e2; omega), fun a1 e _ e2 => (by have := f2 a1 e; have := Option.some.inj e2; omega)⟩
  exact ⟨hc _ _ h.c0, hc _ _ h.c1, hc _ _ h.c2, hc _ _ h.c3, h.rc.keep hb h1 h2, ⟨p, by rw [List.map_set, h.ow.es], fun u hu => (hoff u hu).1.grown hgr (hoff u hu).2, fun u hu => (hoff u hu).2⟩, h0.below hbw (Nat.le_refl _), hbw⟩
set_option maxRecDepth 100000 in
set_option maxHeartbeats 8000000 in
theorem entries_any (A : Option Addr) (c : Nat) (L : List Ev) (w : World) (h : Rn.At encE w A L) (hok : ∀ e ∈ L, e.ok) (hl : L.length ≤ 2000) :
    Calls Try.prog 18 #[.slice A L.length c] w (ItS (entL L) w) := by
  have HC := Lib.hid (courses_s A c L w h hok hl)
  have H := Lib.hid h
  have HOK := Lib.hid hok
  have HLL := Lib.hid hl
  obtain ⟨i0, hi, hz0, hz1, hz2⟩ := info_parts Rp.ent_info
  have hstc : ∀ (W : World) (ad : Addr) (p q : Nat) (m : Mode), (store ad (.complex .f64 p q) m).run Try.prog W = stored Try.prog W ad (.complex .f64 p q) m := fun W ad p q m => run_store Try.prog W ad _ m rfl
  clear h hok
  go_enter Try.func18, Try.ntmps18
  go_wp2_with fail
  refine HC.out.mono ?_
  rintro r w1 ⟨B, d, X, rfl, hX, h1, h2, hr, he, hb⟩
  have HB := Lib.hid hb
  have HR := Lib.hid hr
  have HE := Lib.hid he
  have HX := Lib.hid hX
  have hXN : (X.length : Int) ≤ 32 := by omega
  clear hb he hr hX
  go_wp2_with (refine wpList_make encX rfl (.tmp 14) (.tmp 14) 35 rfl 67 i0 _ zeroX Try.underlying35 hi hz0 hz1 rfl (by rw [hz2]; decide) X.length (by have := HX.out; omega) rfl rfl ?_)
  intro w2 ho hb2 hs2
  have HO := Lib.hid (show OwnI 67 w2 w1.heap.size (.slice (some ⟨w1.heap.size, 0, none⟩) X.length X.length) (List.replicate X.length zeroX) (fill (entF L (cs X)) zeroE X.length 0) from
    ⟨ho, by rw [fill_zero, List.map_replicate]; rfl, fun u hu => by rw [List.eq_of_mem_replicate hu]; exact ⟨sl_nil _, sl_nil _⟩, fun u hu => by rw [List.eq_of_mem_replicate hu]; exact ⟨(fun a1 e => by cases e), (fun a1 e => by cases e)⟩⟩)
  have HB2 := Lib.hid (show Below w.heap.size w w2 from HB.out.trans (hb2.mono HB.out.size))
  have HG0 := Lib.hid HB.out.size
  have HR2 := Lib.hid (HR.out.below hb2)
  have HA2 := Lib.hid (H.out.below HB2.out (Nat.le_refl _))
  have HMG := Lib.hid HR.out.lt
  have HLT0 := Lib.hid (show 0 < X.length → ∀ ad, B = some ad → ad.block < w1.heap.size from fun hp ad e => by
    obtain ⟨ad', e', h'⟩ := at_lt HR.out.row hp
    rw [e] at e'; obtain rfl := Option.some.inj e'; exact h')
  clear ho hb2 hs2 HR
  generalize w1.heap.size = g at *
  go_wp2
  go_loopw [18] (EnRel w A B L X g) (fun i _ => X.length - (intOf i).toNat)
  case atStart => exact ⟨0, _, Nat.zero_le _, rfl, HR2.out, HO.out, HA2.out, HB2.out⟩
  case round =>
    obtain ⟨k, Y, hk, rfl, hr, ho, ha, hb⟩ := hrel
    have HO := Lib.hid ho
    have HB := Lib.hid hb
    have HR := Lib.hid hr
    have HAr := Lib.hid ha
    clear ho hb hr ha
    by_cases hlt : k < X.length
    · have hlt' : (k : Int) < (X.length : Int) := by omega
      have hx : X[k]? = some X[k] := List.getElem?_eq_getElem hlt
      generalize hXX : X[k] = x at hx
      have HKB := Lib.hid hlt
      have HKN := Lib.hid hlt'
      have HWK := Lib.hid (show IntKind.i64.wrap ((k : Int) + 1) = (k : Int) + 1 from by rw [IntKind.wrap_i64]; omega)
      have HMX := Lib.hid (List.mem_of_getElem? hx)
      have HGX := Lib.hid (HR.out.gc x HMX.out)
      have HOKC := Lib.hid (show Okc L.length x.c from crL_okL hl _ (by rw [← HE.out]; exact List.mem_map_of_mem HMX.out))
      have HFR := Lib.hid (show FitL L x.c.rd ∧ FitL L x.c.wr from ⟨HOKC.out.rdL, HOKC.out.wrL⟩)
      have HEN := Lib.hid (show entF L (cs X) k = entC L k x.c from by unfold entF; rw [cs_at hx])
      have HLT := Lib.hid (HLT0.out (by omega))
      have HG := Lib.hid (show w.heap.size ≤ g ∧ g < wr.heap.size from ⟨HG0.out, HO.out.row.lt.2⟩)
      obtain ⟨ad, rfl, c0, c1, c2, c3⟩ := atC HR.out.row hx
      have hbx := heap_alloc_new wr (.cells (coA x) 82)
      have HS0 := Lib.hid (show NSe w wr A (some ad) L X g x Y (fill (entF L (cs X)) zeroE X.length k) (wr.alloc (.cells (coA x) 82)) from
        ⟨cell_of_row _ _ 0 _ _ _ hbx, cell_of_row _ _ 1 _ _ _ hbx, cell_of_row _ _ 2 _ _ _ hbx, cell_of_row _ _ 3 _ _ _ hbx, HR.out.below (Rn.below_new _ _), HO.out.below (Rn.below_new _ _), HAr.out.alloc _, HB.out.alloc HB.out.size _⟩)
      clear hx hXX hbx
      unfold coA at HS0
      go_wp2
      generalize wr.alloc (.cells #[.complex .f64 (cr x.c) (ci x.c), .bool x.c.com, .map (some x.rb), .map (some x.wb)] 82) = W0 at HS0 ⊢
      refine wp_region_noPanic ?_
      refine region_z 15 (fun W => NSe w wr A (some ad) L X g x Y (fill (entF L (cs X)) zeroE X.length k) W) 14 1000 rfl (by kernel_rfl) (by exact HS0.out.drew) (fun hHeld => ?_)
      refine take_d [13, 14] 0 23 (.slice (some ⟨g, 0, none⟩) X.length X.length) rfl rfl (by kernel_rfl) (by kernel_rfl) (by kernel_rfl) (by kernel_rfl) (fun _ _ _ h => h) (Or.inl ⟨by rfl, by intro W hW; clear hW; go_simp⟩) hHeld ?_
      simp only [put_laws]
      refine take_d [13, 14] 1 24 (.int .i64 (k : Nat)) rfl rfl (by kernel_rfl) (by kernel_rfl) (by kernel_rfl) (by kernel_rfl) (fun _ _ _ h => h) (Or.inl ⟨by rfl, by intro W hW; clear hW; go_simp⟩) hHeld ?_
      simp only [put_laws]
      refine take_d [3, 12, 13, 14] 2 25 (.int .i64 (k : Nat)) rfl rfl (by kernel_rfl) (by kernel_rfl) (by kernel_rfl) (by kernel_rfl) (fun _ _ _ h => h) (Or.inl ⟨by rfl, by intro W hW; clear hW; go_simp⟩) hHeld ?_
      simp only [put_laws]
      refine take_d [12, 13, 14] 3 26 (.int .i64 ((k : Int) + 1)) rfl rfl (by kernel_rfl) (by kernel_rfl) (by kernel_rfl) (by kernel_rfl) (fun _ _ _ h => h) (Or.inl ⟨by rfl, by intro W hW; have hk2 := HKN.out; have hwk := HWK.out; clear hW; go_simp⟩) hHeld ?_
      simp only [put_laws]
      refine take_d [5, 12, 13, 14] 4 27 (.pointer (some ⟨wr.heap.size, 1, none⟩)) rfl rfl (by kernel_rfl) (by kernel_rfl) (by kernel_rfl) (by kernel_rfl) (fun _ _ _ h => h) (Or.inl ⟨by rfl, by intro W hW; clear hW; go_simp⟩) hHeld ?_
      simp only [put_laws]
      refine take_d [12, 13, 14] 5 28 (.bool x.c.com) rfl rfl (by kernel_rfl) (by kernel_rfl) (by kernel_rfl) (by kernel_rfl) (fun _ _ _ h => h) (Or.inl ⟨by rfl, by intro W hW; have c := hW.c1; clear hW; go_simp⟩) hHeld ?_
      simp only [put_laws]
      refine take_d [7, 11, 12, 13, 14] 6 29 (.agg (#[.complex .f64 (cr x.c) (ci x.c), .bool x.c.com, .map (some x.rb), .map (some x.wb)])) rfl rfl (by kernel_rfl) (by kernel_rfl) (by kernel_rfl) (by kernel_rfl) (fun _ _ _ h => h) (Or.inl ⟨by rfl, by intro W hW; have c0 := hW.c0; have c1 := hW.c1; have c2 := hW.c2; have c3 := hW.c3; clear hW; go_simp⟩) hHeld ?_
      simp only [put_laws]
      refine take_d [11, 12, 13, 14] 8 31 (.slice A L.length c) rfl rfl (by kernel_rfl) (by kernel_rfl) (by kernel_rfl) (by kernel_rfl) (fun _ _ _ h => h) (Or.inl ⟨by rfl, by intro W hW; clear hW; go_simp⟩) hHeld ?_
      simp only [put_laws]
      refine take_d [10, 11, 12, 13, 14] 9 32 (.pointer (some ⟨wr.heap.size, 2, none⟩)) rfl rfl (by kernel_rfl) (by kernel_rfl) (by kernel_rfl) (by kernel_rfl) (fun _ _ _ h => h) (Or.inl ⟨by rfl, by intro W hW; clear hW; go_simp⟩) hHeld ?_
      simp only [put_laws]
      refine take_d [11, 12, 13, 14] 10 33 (.map (some x.rb)) rfl rfl (by kernel_rfl) (by kernel_rfl) (by kernel_rfl) (by kernel_rfl) (fun _ _ _ h => h) (Or.inl ⟨by rfl, by intro W hW; have c := hW.c2; clear hW; go_simp⟩) hHeld ?_
      simp only [put_laws]
      refine anyZ_ready (rs := [7]) (by kernel_rfl) (by simp) ?_
      refine AllZ.cons rfl (fun K hK => ?_) AllZ.nil
      go_simp
      refine (over_any x HGX.out _).mono ?_
      rintro e w2 ⟨rfl, hb⟩
      try go_simp
      have hPrev := hHeld
      have hHeld := hHeld.below hb
      clear hPrev
      refine hK.out _ _ hHeld (fun hHeld => ?_)
      clear hK K
      refine anyZ_ready (rs := [11]) (by kernel_rfl) (by simp) ?_
      refine AllZ.cons rfl (fun K hK => ?_) AllZ.nil
      go_simp
      refine (steps_m A c L x.rb x.c.rd _ hHeld.h HOK.out HLL.out (hHeld.rc.mp x HMX.out).1 HFR.out.1).mono ?_
      rintro e w3 ⟨A1, d1, rfl, hsl, hfr, hb⟩
      try go_simp
      have hPrev := hHeld
      have hHeld := hHeld.below hb
      have hof : ∀ a1, A1 = some a1 → g < a1.block := fun a1 e => Nat.lt_of_lt_of_le hPrev.ow.row.lt.2 (hfr a1 e)
      clear hfr
      clear hPrev
      refine hK.out _ _ hHeld (fun hHeld => ?_)
      clear hK K
      refine take_d [13, 14] 12 35 (.agg (#[.int .i64 ((k : Int) + 1), .bool x.c.com, .bool (over x.c), .slice A1 (stepsF L x.c.rd).length d1, .slice none 0 0])) rfl rfl (by kernel_rfl) (by kernel_rfl) (by kernel_rfl) (by kernel_rfl) (fun _ _ _ h => h) (Or.inl ⟨by rfl, by intro W hW; clear hW; go_simp⟩) hHeld ?_
      simp only [put_laws]
      refine take_d [14] 13 36 (.pointer (some ⟨g, k * 5, none⟩)) rfl rfl (by kernel_rfl) (by kernel_rfl) (by kernel_rfl) (by kernel_rfl) (fun _ _ _ h => h) (Or.inl ⟨by rfl, by intro W hW; have hk := HKB.out; have hk2 := HKN.out; clear hW; go_simp⟩) hHeld ?_
      simp only [put_laws]
      refine anyZ_ready (rs := [14]) (by kernel_rfl) (by simp) ?_
      refine AllZ.last rfl rfl (fun K hK => ?_)
      have hput := NSe.put (k := k) (y := ⟨⟨(k : Int) + 1, x.c.com, over x.c, stepsF L x.c.rd, []⟩, A1, d1, none, 0⟩) (e0 := ⟨(k : Int) + 1, x.c.com, over x.c, stepsF L x.c.rd, []⟩) hHeld H.out (by rw [fill_len]; exact HKB.out) rfl ⟨hsl, sl_nil _⟩ ⟨fun a1 e _ e2 => (by have := hof a1 e; have := Option.some.inj e2; omega), fun a1 e => (by cases e)⟩ HG.out.1 HG.out.2 HLT.out HMG.out
      refine step_store_mid rfl 67 (.tmp 36) (.tmp 35) rfl rfl g (k * 5) #[.int .i64 ((k : Int) + 1), .bool x.c.com, .bool (over x.c), .slice A1 (stepsF L x.c.rd).length d1, .slice none 0 0] rfl rfl hput.2 ent_size (ent_one ⟨⟨(k : Int) + 1, x.c.com, over x.c, stepsF L x.c.rd, []⟩, A1, d1, none, 0⟩) ?_
      have HS5 := Lib.hid hput.1
      have HOF := Lib.hid (show (∀ a1, A1 = some a1 → g < a1.block) from hof)
      have HSL5 := Lib.hid (show SlAt (World.setCells _ g (k * 5) _) A1 d1 (stepsF L x.c.rd) from ((hput.1.ow.rd ⟨⟨(k : Int) + 1, x.c.com, over x.c, stepsF L x.c.rd, []⟩, A1, d1, none, 0⟩ (List.mem_iff_getElem?.2 ⟨k, by rw [List.getElem?_set_self (by rw [hHeld.ow.len, fill_len]; exact HKB.out)]⟩)).rd))
      refine hK.out _ _ ?_
      clear hK K hHeld hsl hput hof
      refine anyZ_done (by kernel_rfl) ?_ _
      refine NoPanic.normal ?_
      generalize World.setCells _ g (k * 5) _ = w5 at HS5 HSL5 ⊢
      cases hcom : x.c.com with
      | false =>
        have HF5 := Lib.hid (show (fill (entF L (cs X)) zeroE X.length k).set k ⟨(k : Int) + 1, x.c.com, over x.c, stepsF L x.c.rd, []⟩ = fill (entF L (cs X)) zeroE X.length (k + 1) from by
          rw [← fill_set]
          congr 1
          rw [HEN.out, hcom]
          simp [entC, hcom])
        have c1 := HS5.out.c1
        rw [hcom] at c1
        clear hcom
        go_wp2
        go_roundw
        case rel => exact ⟨k + 1, _, by have := HKB.out; omega, by go_num, HS5.out.rc, by have := HS5.out.ow; rw [HF5.out] at this; exact this, HS5.out.h, HS5.out.bel⟩
        case measure => simp [intOf]; have := HKB.out; omega
      | true =>
        have HCOM := Lib.hid hcom
        have c1 := HS5.out.c1
        have c3 := HS5.out.c3
        rw [hcom] at c1
        clear hcom
        have hk2 := HKN.out
        go_wp2_with fail
        refine (steps_m A c L x.wb x.c.wr _ HS5.out.h HOK.out HLL.out (HS5.out.rc.mp x HMX.out).2 HFR.out.2).mono ?_
        rintro r w6 ⟨A2, d2, rfl, hsl2, hfr2, hb6⟩
        have HS6 := Lib.hid (HS5.out.below hb6)
        have HOF2 := Lib.hid (show ∀ a1, A2 = some a1 → g < a1.block from fun a1 e => Nat.lt_of_lt_of_le HS5.out.ow.row.lt.2 (hfr2 a1 e))
        have HSL2 := Lib.hid hsl2
        have HSL6 := Lib.hid (HSL5.out.below hb6)
        clear hsl2 hfr2 hb6 c1 c3
        have hy5 : (Y.set k ⟨⟨(k : Int) + 1, x.c.com, over x.c, stepsF L x.c.rd, []⟩, A1, d1, none, 0⟩)[k]? = some ⟨⟨(k : Int) + 1, x.c.com, over x.c, stepsF L x.c.rd, []⟩, A1, d1, none, 0⟩ := by rw [List.getElem?_set_self (by have := HS5.out.ow.len; rw [List.length_set, List.length_set, fill_len] at this; rw [this]; exact HKB.out)]
        have cc := HS6.out.ow.row.get hy5 4 (by decide)
        have ff := HS6.out.ow.row.free (k * 5 + 4)
        have HPT := Lib.hid (own_wr (e0 := ⟨(k : Int) + 1, x.c.com, over x.c, stepsF L x.c.rd, []⟩) HS6.out hy5 HSL6.out HSL2.out HOF.out HOF2.out H.out HG.out.1 HG.out.2 HLT.out HMG.out)
        have HF6 := Lib.hid (show ((fill (entF L (cs X)) zeroE X.length k).set k ⟨(k : Int) + 1, x.c.com, over x.c, stepsF L x.c.rd, []⟩).set k ⟨(k : Int) + 1, x.c.com, over x.c, stepsF L x.c.rd, stepsF L x.c.wr⟩ = fill (entF L (cs X)) zeroE X.length (k + 1) from by
          rw [List.set_set, ← fill_set]
          congr 1
          rw [HEN.out]
          simp [entC, HCOM.out])
        clear hy5
        simp only [List.getElem?_cons_succ, List.getElem?_cons_zero, List.length_nil] at cc
        go_wp2
        go_roundw
        case rel => exact ⟨k + 1, _, by have := HKB.out; omega, by go_num, HPT.out.rc, by have := HPT.out.ow; rw [HF6.out] at this; exact this, HPT.out.h, HPT.out.bel⟩
        case measure => simp [intOf]; have := HKB.out; omega
    · have hlt' : ¬ (k : Int) < (X.length : Int) := by omega
      obtain rfl : k = X.length := by omega
      have HF := Lib.hid (show OwnI 67 wr g (.slice (some ⟨g, 0, none⟩) X.length X.length) Y (entL L) from by
        have := HO.out
        rw [fill_all, ← cs_len X] at this
        unfold entL
        rw [← HE.out]
        rw [cs_len] at this ⊢
        exact this)
      go_wp2
      go_ret
      obtain ⟨B', d', e1, e2, e3, e4⟩ := HF.out.slice
      exact ⟨B', d', Y, congrArg Ending.returned e1, e2, e3, e4, HB.out⟩
end Go.Proofs.Ytcfdndppkpjleaa.Hi
