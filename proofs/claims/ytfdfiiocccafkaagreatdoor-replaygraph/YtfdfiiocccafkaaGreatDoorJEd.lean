/-
  The calls on an engine that a statement made: what they answer, and that all else of the statement's own stays.
  The contract of Does: an act on an engine.
  The contract of the statements' own first look: the answers that the document fixes are given; nothing that was there is changed.
  Rows of acts that came in; an engine that a row of acts went over; the contract of run.
-/
import Derived.Test.YtfdfiiocccafkaaGreatDoorJEn
import Derived.Test.YtfdfiiocccafkaaGreatDoorJEs
import Derived.Test.YtfdfiiocccafkaaGreatDoorJEm
namespace Go.Proofs.YtfdfiiocccafkaaGreatDoor.En
open Go.RowKit
/-- blocks of the caller's own are as they were. -/
structure Same (P : Nat → Prop) (w w' : World) : Prop where
  size : w.heap.size ≤ w'.heap.size
  block : ∀ k, P k → w'.heap[k]? = w.heap[k]?
theorem Same.refl (P : Nat → Prop) (w : World) : Same P w w := ⟨Nat.le_refl _, fun _ _ => rfl⟩
theorem Same.trans {P : Nat → Prop} {a b c : World} (h : Same P a b) (k : Same P b c) : Same P a c := ⟨Nat.le_trans h.size k.size, fun i hi => (k.block i hi).trans (h.block i hi)⟩
theorem Same.cell {P : Nat → Prop} {w w' : World} (h : Same P w w') {p : Addr} {v : Value} (hc : w.cell? p = some v) (hp : P p.block) : w'.cell? p = some v := (World.cell?_of_block (h.block _ hp)).trans hc
/-- the engine at b, made since w0, and blocks P of the caller's own that it does not touch. -/
structure Live (w0 : World) (P : Nat → Prop) (b N : Nat) (K : Int) (g : Eng) (w : World) : Prop where
  ex : ∃ F, EngAt F w b N g ∧ ∀ k, F k → w0.heap.size ≤ k ∧ ¬ P k
  bel : Below w0.heap.size w0 w
  pl : ∀ k, P k → k < w.heap.size
  inv : Inv K g
section
variable {w0 w w' : World} {P : Nat → Prop} {b N M : Nat} {K L : Int} {g g' : Eng}
theorem Live.below (h : Live w0 P b N K g w) (hb : Below w.heap.size w w') : Live w0 P b N K g w' := by
  obtain ⟨F, hE, hF⟩ := h.ex
  exact ⟨⟨F, hE.below hb, hF⟩, h.bel.trans (hb.mono h.bel.size), fun k hk => Nat.lt_of_lt_of_le (h.pl k hk) hb.size, h.inv⟩
theorem Live.same (h : Live w0 P b N K g w) (hb : Below w.heap.size w w') : Same P w w' := ⟨hb.size, fun k hk => hb.block k (h.pl k hk)⟩
theorem Live.mono (h : Live w0 P b N K g w) (hM : N ≤ M) (hL : K ≤ L) : Live w0 P b M L g w := by
  obtain ⟨F, ⟨sA, sc, mb, lv, T, X, hE⟩, hF⟩ := h.ex
  exact ⟨⟨F, ⟨sA, sc, mb, lv, T, X, hE.mono hM⟩, hF⟩, h.bel, h.pl, h.inv.mono hL⟩
/-- blocks made since are the caller's, too. -/
theorem Live.own {Q : Nat → Prop} (h : Live w0 P b N K g w) (hb : Below w.heap.size w w') (hQ : ∀ k, Q k → P k ∨ (w.heap.size ≤ k ∧ k < w'.heap.size)) : Live w0 Q b N K g w' := by
  have h2 := h.below hb
  obtain ⟨F, hE, hF⟩ := h.ex
  obtain ⟨sA, sc, mb, lv, T, X, hE'⟩ := hE
  refine ⟨⟨F, ⟨sA, sc, mb, lv, T, X, hE'.below hb⟩, fun k hk => ⟨(hF k hk).1, fun hq => ?_⟩⟩, h2.bel, fun k hk => ?_, h.inv⟩
  · rcases hQ k hq with h1 | h1
    · exact (hF k hk).2 h1
    · have := hE'.lt k hk; omega
  · rcases hQ k hk with h1 | h1
    · exact h2.pl k h1
    · exact h1.2
theorem live_to {F : Nat → Prop} (h : Live w0 P b N K g w) (hF : ∀ k, F k → w0.heap.size ≤ k ∧ ¬ P k) (hi : Inv L g') (ht : EngTo F w b M g' w') : Live w0 P b M L g' w' ∧ Same P w w' := by
  obtain ⟨F', hE, hk, hf⟩ := ht
  refine ⟨⟨⟨F', hE, fun k hk' => ?_⟩, ?_, fun k hk' => Nat.lt_of_lt_of_le (h.pl k hk') hk.size, hi⟩, hk.size, fun k hp => hk.block k (h.pl k hp) fun hx => (hF k hx).2 hp⟩
  · rcases Nat.lt_or_ge k w.heap.size with h1 | h1
    · exact hF k (hf k h1 hk')
    · exact ⟨Nat.le_trans h.bel.size h1, fun hp => by have := h.pl k hp; omega⟩
  · exact ⟨hk.os.trans h.bel.os, hk.tape.trans h.bel.tape, hk.output.trans h.bel.output, Nat.le_trans h.bel.size hk.size, fun k hk' => (hk.block k (Nat.lt_of_lt_of_le hk' h.bel.size) (fun hx => by have := (hF k hx).1; omega)).trans (h.bel.block k hk')⟩
theorem Live.tab (h : Live w0 P b N K g w) (hT : TabAt w0) : TabAt w := hT.below h.bel hT.lt
/-- a block in which no row of steps, and none of variables, can lie. -/
def Dry (w : World) (m : Nat) : Prop := ∀ ad : Addr, ad.block = m → w.cell? (ad.add 3) = none
theorem dry_map {m : Nat} {es : _} {ck : Nat} (h : w.heap[m]? = some (.map es ck)) : Dry w m := fun ad hb => by
  unfold World.cell?
  rw [Tx.add_block, hb, h]
theorem dry_small {m : Nat} {cs : Array Value} {t : TypeId} {fr : Nat × Nat} (h : w.heap[m]? = some (.cells cs t fr)) (hs : cs.size ≤ 3) : Dry w m := fun ad hb => by
  have e : ad.add 3 = ⟨m, ad.off + 3, none⟩ := by unfold Addr.add; rw [if_neg (by decide), hb]
  rw [e, cell_of_row w m _ cs t fr h]
  exact Array.getElem?_eq_none (by omega)
theorem SlF.dry {F : Nat → Prop} {A : Option Addr} {c m : Nat} {L : List Tx.Sp} (h : SlF F w A c L) (hd : Dry w m) (hk : Kp (fun k => k = m) w w') : SlF F w' A c L := by
  have h2 : SlF (fun k => k = m) w A c L := ⟨h.sl, fun hl ad e hx => by
    obtain ⟨ad', e', hc⟩ := h.sl.at_.cell hl
    rw [e] at e'
    obtain rfl := Option.some.inj e'
    have h0 := hc 3 _ (List.getElem?_eq_getElem (by rw [Tx.flat_len]; omega))
    rw [hd ad hx] at h0
    cases h0⟩
  exact ⟨(h2.kp hk).sl, h.off⟩
theorem VrF.dry {F : Nat → Prop} {A : Option Addr} {m : Nat} {L : List St.Vr} (h : VrF F w A L) (hd : Dry w m) (hk : Kp (fun k => k = m) w w') : VrF F w' A L := by
  have h2 : VrF (fun k => k = m) w A L := ⟨h.at_, fun hl ad e hx => by
    obtain ⟨ad', e', hc⟩ := h.at_.cell hl
    rw [e] at e'
    obtain rfl := Option.some.inj e'
    have h0 := hc 3 _ (List.getElem?_eq_getElem (by rw [Sx.flat_len]; omega))
    rw [hd ad hx] at h0
    cases h0⟩
  exact ⟨(h2.kp hk).at_, h.off⟩
theorem EntAt.dry {F : Nat → Prop} {m : Nat} {x : Xe} (h : EntAt F w x) (hd : Dry w m) (hk : Kp (fun k => k = m) w w') : EntAt F w' x := by
  obtain ⟨⟨A, c, e, h1⟩, ⟨B, d, e', h2⟩⟩ := h
  exact ⟨⟨A, c, e, h1.dry hd hk⟩, ⟨B, d, e', h2.dry hd hk⟩⟩
theorem EngAt.dry {F : Nat → Prop} {m : Nat} (h : EngAt F w b N g) (hd : Dry w m) (hF : ¬ F m) (hk : Kp (fun k => k = m) w w') : EngAt F w' b N g := by
  obtain ⟨sA, sc, mb, lv, T, X, h⟩ := h
  have hbl : ∀ k, F k → w'.heap[k]? = w.heap[k]? := fun k hx => hk.block k (h.lt k hx) (fun e => hF (e ▸ hx))
  obtain ⟨sz, hmp⟩ := h.mp
  refine ⟨sA, sc, mb, lv, T, X, h.raw.other (hbl _ h.Fb), h.st.dry hd hk, ⟨sz, MapV.other hmp (hbl _ h.Fm)⟩, fun i hi => ?_, row_other h.lg (fun k e => hbl k ((h.foot k).2 (.inr (.inr e)))), h.xs, fun x hx => (h.xe x hx).dry hd hk, h.foot⟩
  obtain ⟨A, c, e, h1⟩ := h.ts i hi
  exact ⟨A, c, e, h1.dry hd hk⟩
/-- a change of a block of the caller's own. -/
theorem Live.dry {m : Nat} (h : Live w0 P b N K g w) (hp : P m) (hw0 : w0.heap.size ≤ m) (hd : Dry w m) (hk : Kp (fun k => k = m) w w') : Live w0 P b N K g w' := by
  obtain ⟨F, hE, hF⟩ := h.ex
  exact ⟨⟨F, hE.dry hd (fun hx => (hF m hx).2 hp) hk, hF⟩, ⟨hk.os.trans h.bel.os, hk.tape.trans h.bel.tape, hk.output.trans h.bel.output, Nat.le_trans h.bel.size hk.size, fun k hx => (hk.block k (Nat.lt_of_lt_of_le hx h.bel.size) (fun e => by omega)).trans (h.bel.block k hx)⟩, fun k hx => Nat.lt_of_lt_of_le (h.pl k hx) hk.size, h.inv⟩
theorem kp_grown {m : Nat} (hg : w.grownBy w' (some m)) : Kp (fun k => k = m) w w' := (Kp.refl _ w).grown hg (fun _ e => .inl (Option.some.inj e).symm)
theorem kp_set {m o : Nat} (u : Value) : Kp (fun k => k = m) w (w.setCell ⟨m, o, none⟩ u) := (Kp.refl (fun k => k = m) w).setCell (p := ⟨m, o, none⟩) (.inl rfl) u
/- the calls -/
theorem Inv.ws (h : Inv K g) : ∀ i, Po.tk g.p i → ∀ x ∈ Tx.writesL (g.t i), St.has g.s x.x ∧ St.right x.k x.n = true := fun i hi x hx => by
  have := h.ts i hi x (writes_mem hx).1
  exact ⟨this.1, this.2.1⟩
theorem begin_live (h : Live w0 P b N K g w) (hN : N < 4000) (hK : K ≤ 100000) (hT : TabAt w0) :
    Calls Tryz.prog 32 #[.pointer (some ⟨b, 0, none⟩)] w fun e w' => e = .returned (.tuple #[.int .i64 (begin g).2.1, .int .i64 (begin g).2.2]) ∧ Live w0 P b (N + 1) (K + 1) (begin g).1 w' ∧ Same P w w' := by
  obtain ⟨F, hE, hF⟩ := h.ex
  exact (begin_any hE (h.inv.fit hK) hN (h.tab hT)).mono fun _ _ ⟨he, ht⟩ => ⟨he, live_to h hF (begin_inv h.inv) ht⟩
theorem read_live (h : Live w0 P b N K g w) (hN : N < 4000) (hK : K ≤ 100000) (hT : TabAt w0) {id x : Int} (hid : St.i64p id) (hx : St.i64p x) :
    Calls Tryz.prog 28 #[.pointer (some ⟨b, 0, none⟩), .int .i64 id, .int .i64 x] w fun e w' => e = .returned (.tuple #[.agg #[.int .i64 (read g id x).2.1.1, .int .i64 (read g id x).2.1.2], .int .i64 (read g id x).2.2]) ∧ Live w0 P b (N + 1) (K + 1) (read g id x).1 w' ∧ Same P w w' := by
  obtain ⟨F, hE, hF⟩ := h.ex
  exact (read_any hE (h.inv.fit hK) h.inv.vok h.inv.liv hid hx (h.tab hT) hN).mono fun _ _ ⟨he, ht⟩ => ⟨he, live_to h hF ((read_inv h.inv hx).mono (by omega)) ht⟩
theorem write_live (h : Live w0 P b N K g w) (hN : N < 4000) {id x k n : Int} (hid : St.i64p id) (hx : St.i64p x) (hk : St.i64p k) (hn : St.i64p n) :
    Calls Tryz.prog 29 #[.pointer (some ⟨b, 0, none⟩), .int .i64 id, .int .i64 x, .agg #[.int .i64 k, .int .i64 n]] w fun e w' => e = .returned (.int .i64 (write g id x k n).2) ∧ Live w0 P b (N + 1) (K + 1) (write g id x k n).1 w' ∧ Same P w w' := by
  obtain ⟨F, hE, hF⟩ := h.ex
  exact (write_any hE h.inv.ps hN h.inv.tl hid hx hk hn).mono fun _ _ ⟨he, ht⟩ => ⟨he, live_to h hF ((write_inv h.inv hx hk hn).mono (by omega)) ht⟩
theorem back_live (h : Live w0 P b N K g w) (hN : N < 4000) {id x : Int} (hid : St.i64p id) (hx : St.i64p x) :
    Calls Tryz.prog 31 #[.pointer (some ⟨b, 0, none⟩), .int .i64 id, .int .i64 x] w fun e w' => e = .returned (.int .i64 (back g id x).2) ∧ Live w0 P b (N + 1) (K + 1) (back g id x).1 w' ∧ Same P w w' := by
  obtain ⟨F, hE, hF⟩ := h.ex
  exact (back_any hE h.inv.ps hN h.inv.tl hid hx).mono fun _ _ ⟨he, ht⟩ => ⟨he, live_to h hF ((back_inv h.inv).mono (by omega)) ht⟩
theorem abort_live (h : Live w0 P b N K g w) (hK : K ≤ 100000) {id : Int} (hid : St.i64p id) :
    Calls Tryz.prog 16 #[.pointer (some ⟨b, 0, none⟩), .int .i64 id] w fun e w' => e = .returned (.int .i64 (abort g id).2) ∧ Live w0 P b N K (abort g id).1 w' ∧ Same P w w' := by
  obtain ⟨F, hE, hF⟩ := h.ex
  exact (abort_any hE (h.inv.fit hK) h.inv.liv hid).mono fun _ _ ⟨he, ht⟩ => ⟨he, live_to h hF (abort_inv h.inv) ht⟩
theorem commit_live (h : Live w0 P b N K g w) (hN : N < 4000) (hK : K ≤ 100000) (hT : TabAt w0) {id : Int} (hid : St.i64p id) :
    Calls Tryz.prog 30 #[.pointer (some ⟨b, 0, none⟩), .int .i64 id] w fun e w' => e = .returned (.int .i64 (commit g id).2) ∧ Live w0 P b (N + 1) (K + 1) (commit g id).1 w' ∧ Same P w w' := by
  obtain ⟨F, hE, hF⟩ := h.ex
  have hwl : ∀ i, (Tx.writesL (g.t i)).length ≤ 64 := fun i => Tx.rise_len _ _
  have key : Calls Tryz.prog 30 #[.pointer (some ⟨b, 0, none⟩), .int .i64 id] w fun e w' => e = .returned (.int .i64 (commit g id).2) ∧ EngTo F w b (N + 1) (commit g id).1 w' := by
    by_cases hc : ∃ i q, liveAt g id = some i ∧ behind g.p i (aheadAll g.s i (Tx.writesL (g.t i))) = some q
    · obtain ⟨i, q, hL, hb⟩ := hc
      exact commit_any1 hE (h.inv.fit hK) (fun v hv => (h.inv.vok v hv).1) h.inv.ws hwl ⟨h.inv.num.1, by have := h.inv.num.2; omega⟩ hN hid (h.tab hT) hL hb
    · refine commit_any0 hE (h.inv.fit hK) (fun v hv => (h.inv.vok v hv).1) h.inv.liv (fun i hi x hx => (h.inv.ws i hi x hx).1) hwl hid (h.tab hT) fun i hL => ?_
      cases hb : behind g.p i (aheadAll g.s i (Tx.writesL (g.t i))) with
      | none => rfl
      | some q => exact absurd ⟨i, q, hL, hb⟩ hc
  exact key.mono fun _ _ ⟨he, ht⟩ => ⟨he, live_to h hF (commits_inv h.inv (by omega)) ht⟩
theorem log_live (h : Live w0 P b N K g w) (hK : K ≤ 100000) : Calls Tryz.prog 10 #[.pointer (some ⟨b, 0, none⟩)] w fun e w' => ∃ v, e = .returned v ∧ Told w' w.heap.size v g.log ∧ Below w.heap.size w w' := by
  obtain ⟨F, hE, hF⟩ := h.ex
  exact log_any hE h.inv hK
theorem rest_live (h : Live w0 P b N K g w) (hK : K ≤ 100000) (hT : TabAt w0) : Calls Tryz.prog 11 #[.pointer (some ⟨b, 0, none⟩)] w fun e w' => ∃ v, e = .returned v ∧ Told w' w.heap.size v (rest g) ∧ Below w.heap.size w w' := by
  obtain ⟨F, hE, hF⟩ := h.ex
  exact rest_any hE h.inv hK (h.tab hT)
theorem values_live (h : Live w0 P b N K g w) (hK : K ≤ 100000) : Calls Tryz.prog 14 #[.pointer (some ⟨b, 0, none⟩)] w fun e w' => ∃ q, e = .returned (.slice (some ⟨q, 0, none⟩) g.s.length g.s.length) ∧ Sx.ValsAt w' w.heap.size q g.s.length (vals g.s) ∧ Below w.heap.size w w' := by
  obtain ⟨F, hE, hF⟩ := h.ex
  exact gvals_any hE (h.inv.fit hK)
theorem save_live (h : Live w0 P b N K g w) {id : Int} (hid : St.i64p id) : Calls Tryz.prog 20 #[.pointer (some ⟨b, 0, none⟩), .int .i64 id] w fun e w' => e = .returned (.tuple #[.int .i64 (save g id).1, .int .i64 (save g id).2]) ∧ Below w.heap.size w w' := by
  obtain ⟨F, hE, hF⟩ := h.ex
  exact save_any hE h.inv.ps hid
theorem new_live (n : Int) (v : Nat) (w : World) (hn : 1 ≤ n ∧ n ≤ 32) (hv : v ≤ 64) : Calls Tryz.prog 6 #[.int .i64 n, .int .i64 (v : Nat)] w fun e w' => ∃ b, e = .returned (.pointer (some ⟨b, 0, none⟩)) ∧ Live w (fun _ => False) b 0 0 (new n (v : Nat)) w' := by
  refine (gnew_yes n v w hn hv).mono ?_
  rintro e w' ⟨b, F, rfl, hb, hE, hF, hB⟩
  exact ⟨b, rfl, ⟨F, hE, fun k hk => ⟨hF k hk, fun h => h⟩⟩, hB, fun k hk => hk.elim, new_inv hn ⟨by omega, by omega⟩⟩
end
end Go.Proofs.YtfdfiiocccafkaaGreatDoor.En
namespace Go.Proofs.YtfdfiiocccafkaaGreatDoor.En
open Go.RowKit
attribute [local go_sem ↓] Go.wp_at_zero Go.wp_at_succ
def actA (a : Act) : Array Value := #[.int .u8 (a.kind : Nat), .int .i64 a.id, .int .i64 a.x, .int .i64 a.k, .int .i64 a.n]
theorem rval_size : (Tryz.prog.info? 27).map (·.size) = some 2 := by kernel_rfl
theorem results_does {fn : Func} {c u v : Tmp} {ty : TypeId} (h : fn.results = #[.cell c ty, .tmp u, .tmp v]) (tmps : Array Value) (w : World) (b : Nat) (t : TypeId) (cs : Array Value) (fs : _) (x y : Value) (hp : tmps.getD c undef = .pointer (some ⟨b, 0, none⟩)) (hx : tmps.getD u undef = x) (hy : tmps.getD v undef = y) (hv : Tx.Blk w b cs t)
    (hu : Tryz.prog.underlying ty = some (.struct fs)) (hi : (Tryz.prog.info? ty).map (·.size) = some cs.size) : (results fn tmps).run Tryz.prog w = .ok (.tuple #[.agg cs, x, y]) w := by
  have hp' : tmps[c]?.getD undef = .pointer (some ⟨b, 0, none⟩) := by simpa using hp
  have hx' : tmps[u]?.getD undef = x := by simpa using hx
  have hy' : tmps[v]?.getD undef = y := by simpa using hy
  simp only [results, h]
  simp [hp', hx', hy', asAddr, run_loadVar_row w b t ty _ (0, 0) _ hv hu rfl hi]
theorem rval_info : (Tryz.prog.info? 27).map (fun i => (i.zero, i.size)) = some (some (.agg #[.int .i64 0, .int .i64 0]), 2) := by kernel_rfl
theorem akind_mod (a : Act) (r : Nat) (h : a.kind % 12 = r) : (a.kind : Int).tmod 12 = (r : Nat) := by
  rw [Int.tmod_eq_emod_of_nonneg (by omega)]; omega
/-- what Does leaves. -/
def DoesPost (w0 : World) (P : Nat → Prop) (b N : Nat) (K : Int) (g : Eng) (a : Act) (w : World) (e : Ending) (w' : World) : Prop :=
  e = .returned (.tuple #[.agg #[.int .i64 (act g a).2.1.1, .int .i64 (act g a).2.1.2], .int .i64 (act g a).2.2.1, .int .i64 (act g a).2.2.2]) ∧ Live w0 P b (N + 1) (K + 1) (act g a).1 w' ∧ Same P w w'
/-- the act's box and the result's, as the caller's own. -/
def Q2 (P : Nat → Prop) (w : World) (k : Nat) : Prop := P k ∨ k = w.heap.size ∨ k = w.heap.size + 1
structure DSt (w0 : World) (P : Nat → Prop) (b N : Nat) (K : Int) (g : Eng) (a : Act) (w W : World) : Prop where
  lv : Live w0 (Q2 P w) b N K g W
  sm : Same P w W
  bx : Tx.Blk W w.heap.size (actA a) 29
  rb : Tx.Blk W (w.heap.size + 1) #[.int .i64 0, .int .i64 0] 27
section
variable {w0 w W W' : World} {P : Nat → Prop} {b N M : Nat} {K L : Int} {g g' : Eng} {a : Act}
theorem dst_first (h : Live w0 P b N K g w) (a : Act) : DSt w0 P b N K g a w ((w.alloc (.cells (actA a) 29)).alloc (.cells #[.int .i64 0, .int .i64 0] 27)) := by
  have hb1 := Tx.below_new w (.cells (actA a) 29)
  have hb := hb1.alloc hb1.size (.cells #[.int .i64 0, .int .i64 0] 27)
  refine ⟨h.own hb (fun k hk => ?_), h.same hb, (Tx.Blk.new w (actA a) 29).alloc _, Tx.Blk.new' (Tx.size_new _ _) _ _⟩
  rcases hk with h1 | rfl | rfl
  · exact .inl h1
  · exact .inr ⟨Nat.le_refl _, by simp only [Tx.size_new]; omega⟩
  · exact .inr ⟨by omega, by simp only [Tx.size_new]; omega⟩
theorem DSt.below (h : DSt w0 P b N K g a w W) (hb : Below W.heap.size W W') : DSt w0 P b N K g a w W' :=
  ⟨h.lv.below hb, h.sm.trans ⟨hb.size, fun k hk => hb.block k (h.lv.pl k (.inl hk))⟩, h.bx.below hb, h.rb.below hb⟩
theorem DSt.call (h : DSt w0 P b N K g a w W) (hl : Live w0 (Q2 P w) b M L g' W') (hs : Same (Q2 P w) W W') : DSt w0 P b M L g' a w W' :=
  ⟨hl, h.sm.trans ⟨hs.size, fun k hk => hs.block k (.inl hk)⟩, (hs.block _ (.inr (.inl rfl))).trans h.bx, (hs.block _ (.inr (.inr rfl))).trans h.rb⟩
theorem DSt.out (h : DSt w0 P b N K g a w W) : Live w0 P b N K g W ∧ Same P w W := by
  obtain ⟨F, hE, hF⟩ := h.lv.ex
  exact ⟨⟨⟨F, hE, fun k hk => ⟨(hF k hk).1, fun hp => (hF k hk).2 (.inl hp)⟩⟩, h.lv.bel, fun k hk => h.lv.pl k (.inl hk), h.lv.inv⟩, h.sm⟩
/-- another value in the result's box. -/
theorem DSt.tell (h : DSt w0 P b N K g a w W) (hw : w0.heap.size ≤ w.heap.size) (hp : ∀ k, P k → k < w.heap.size) (u v : Value) : Live w0 P b N K g ((W.setCell ⟨w.heap.size + 1, 0, none⟩ u).setCell ⟨w.heap.size + 1, 1, none⟩ v) ∧ Same P w ((W.setCell ⟨w.heap.size + 1, 0, none⟩ u).setCell ⟨w.heap.size + 1, 1, none⟩ v) ∧ Tx.Blk ((W.setCell ⟨w.heap.size + 1, 0, none⟩ u).setCell ⟨w.heap.size + 1, 1, none⟩ v) (w.heap.size + 1) #[u, v] 27 := by
  have k1 := kp_set (w := W) (m := w.heap.size + 1) (o := 0) u
  have k2 := k1.setCell (p := ⟨w.heap.size + 1, 1, none⟩) (.inl rfl) v
  have hl : DSt w0 P b N K g a w W := h
  have h2 := h.lv.dry (m := w.heap.size + 1) (.inr (.inr rfl)) (by omega) (dry_small h.rb (by simp)) k2
  obtain ⟨F, hE, hF⟩ := h2.ex
  refine ⟨⟨⟨F, hE, fun k hk => ⟨(hF k hk).1, fun hp => (hF k hk).2 (.inl hp)⟩⟩, h2.bel, fun k hk => h2.pl k (.inl hk), h2.inv⟩, h.sm.trans ⟨k2.size, fun k hk => k2.block k (h.lv.pl k (.inl hk)) (fun e => by have := hp k hk; omega)⟩, ?_⟩
  exact (h.rb.set 0 u).set 1 v
end
theorem act_read {g : Eng} {a : Act} (h : 2 ≤ a.kind % 12 ∧ a.kind % 12 ≤ 4) : act g a = ((read g a.id a.x).1, (read g a.id a.x).2.1, 0, (read g a.id a.x).2.2) := by unfold act; rw [if_pos h]
theorem act_write {g : Eng} {a : Act} (h : 5 ≤ a.kind % 12 ∧ a.kind % 12 ≤ 7) : act g a = ((write g a.id a.x a.k a.n).1, (0, 0), 0, (write g a.id a.x a.k a.n).2) := by unfold act; rw [if_neg (by omega), if_pos h]
theorem act_commit {g : Eng} {a : Act} (h : 8 ≤ a.kind % 12 ∧ a.kind % 12 ≤ 9) : act g a = ((commit g a.id).1, (0, 0), 0, (commit g a.id).2) := by unfold act; rw [if_neg (by omega), if_neg (by omega), if_pos h]
theorem act_abort {g : Eng} {a : Act} (h : a.kind % 12 = 10) : act g a = ((abort g a.id).1, (0, 0), 0, (abort g a.id).2) := by unfold act; rw [if_neg (by omega), if_neg (by omega), if_neg (by omega), if_pos h]
theorem act_back {g : Eng} {a : Act} (h : a.kind % 12 = 11) : act g a = ((back g a.id a.x).1, (0, 0), 0, (back g a.id a.x).2) := by unfold act; rw [if_neg (by omega), if_neg (by omega), if_neg (by omega), if_neg (by omega), if_pos h]
theorem act_begin {g : Eng} {a : Act} (h : a.kind % 12 < 2) : act g a = ((begin g).1, (0, 0), (begin g).2.1, (begin g).2.2) := by unfold act; rw [if_neg (by omega), if_neg (by omega), if_neg (by omega), if_neg (by omega), if_neg (by omega)]
theorem build_rval (w : World) : (Instr.build 27 #[]).run Tryz.prog w = .ok (.agg #[.int .i64 0, .int .i64 0]) w := by
  have hz := (zero_of_info rval_info).1
  unfold Instr.build
  simp only [Sem.run_bind, hz, run_underlying Tryz.underlying27, Result.andThen_ok]
  simp [Instr.fill, Value.cells]
theorem val_info : (Tryz.prog.info? 71).map (fun i => (i.zero, i.size)) = some (some (.agg #[.int .i64 0, .int .i64 0]), 2) := by kernel_rfl
set_option maxHeartbeats 4000000 in
set_option maxRecDepth 100000 in
theorem does_k0 {w0 w : World} {P : Nat → Prop} {b N : Nat} {K : Int} {g : Eng} {a : Act} (h : Live w0 P b N K g w) (hN : N < 4000) (hK : K ≤ 100000) (hT : TabAt w0) (ha : a.ok) (hm : a.kind % 12 = 0) :
    Calls Tryz.prog 7 #[.pointer (some ⟨b, 0, none⟩), .agg (actA a)] w (DoesPost w0 P b N K g a w) := by
  have hmod := akind_mod a 0 hm
  have HD := Lib.hid (dst_first h a)
  have HA := Lib.hid ha
  have HT := Lib.hid hT
  have HM := Lib.hid hm
  have HW := Lib.hid h.bel.size
  have HPL := Lib.hid h.pl
  have hz := (zero_of_info rval_info).1
  have hz2 := (zero_of_info val_info).1
  have hbn := build_rval
  clear h ha hT hm
  unfold DoesPost
  rw [act_begin (by have := HM.out; omega)]
  unfold actA at *
  go_enter Tryz.func7, Tryz.ntmps7
  go_wp2_with fail
  refine (begin_live HD.out.lv hN hK HT.out).mono ?_
  rintro e w1 ⟨rfl, hl, hs⟩
  have HD1 := Lib.hid (HD.out.call hl hs)
  clear hl hs HD
  have r0 := HD1.out.rb.cell 0
  have r1 := HD1.out.rb.cell 1
  have rf := HD1.out.rb.free
  simp only [List.getElem?_toArray, List.getElem?_cons_zero, List.getElem?_cons_succ] at r0 r1
  go_wp2
  have ht := HD1.out.tell HW.out HPL.out (.int .i64 0) (.int .i64 0)
  refine bodyPost_ret (results_does rfl _ _ (w.heap.size + 1) 27 _ _ _ _ rfl rfl rfl ht.2.2 Tryz.underlying27 rval_size) rfl ?_
  exact ⟨rfl, ht.1, ht.2.1⟩
set_option maxHeartbeats 4000000 in
set_option maxRecDepth 100000 in
theorem does_k1 {w0 w : World} {P : Nat → Prop} {b N : Nat} {K : Int} {g : Eng} {a : Act} (h : Live w0 P b N K g w) (hN : N < 4000) (hK : K ≤ 100000) (hT : TabAt w0) (ha : a.ok) (hm : a.kind % 12 = 1) :
    Calls Tryz.prog 7 #[.pointer (some ⟨b, 0, none⟩), .agg (actA a)] w (DoesPost w0 P b N K g a w) := by
  have hmod := akind_mod a 1 hm
  have HD := Lib.hid (dst_first h a)
  have HA := Lib.hid ha
  have HT := Lib.hid hT
  have HM := Lib.hid hm
  have HW := Lib.hid h.bel.size
  have HPL := Lib.hid h.pl
  have hz := (zero_of_info rval_info).1
  have hz2 := (zero_of_info val_info).1
  have hbn := build_rval
  clear h ha hT hm
  unfold DoesPost
  rw [act_begin (by have := HM.out; omega)]
  unfold actA at *
  go_enter Tryz.func7, Tryz.ntmps7
  go_wp2_with fail
  refine (begin_live HD.out.lv hN hK HT.out).mono ?_
  rintro e w1 ⟨rfl, hl, hs⟩
  have HD1 := Lib.hid (HD.out.call hl hs)
  clear hl hs HD
  have r0 := HD1.out.rb.cell 0
  have r1 := HD1.out.rb.cell 1
  have rf := HD1.out.rb.free
  simp only [List.getElem?_toArray, List.getElem?_cons_zero, List.getElem?_cons_succ] at r0 r1
  go_wp2
  have ht := HD1.out.tell HW.out HPL.out (.int .i64 0) (.int .i64 0)
  refine bodyPost_ret (results_does rfl _ _ (w.heap.size + 1) 27 _ _ _ _ rfl rfl rfl ht.2.2 Tryz.underlying27 rval_size) rfl ?_
  exact ⟨rfl, ht.1, ht.2.1⟩
set_option maxHeartbeats 4000000 in
set_option maxRecDepth 100000 in
theorem does_k2 {w0 w : World} {P : Nat → Prop} {b N : Nat} {K : Int} {g : Eng} {a : Act} (h : Live w0 P b N K g w) (hN : N < 4000) (hK : K ≤ 100000) (hT : TabAt w0) (ha : a.ok) (hm : a.kind % 12 = 2) :
    Calls Tryz.prog 7 #[.pointer (some ⟨b, 0, none⟩), .agg (actA a)] w (DoesPost w0 P b N K g a w) := by
  have hmod := akind_mod a 2 hm
  have HD := Lib.hid (dst_first h a)
  have HA := Lib.hid ha
  have HT := Lib.hid hT
  have HM := Lib.hid hm
  have HW := Lib.hid h.bel.size
  have HPL := Lib.hid h.pl
  have hz := (zero_of_info rval_info).1
  have hz2 := (zero_of_info val_info).1
  have hbn := build_rval
  clear h ha hT hm
  unfold DoesPost
  rw [act_read (by have := HM.out; omega)]
  unfold actA at *
  go_enter Tryz.func7, Tryz.ntmps7
  go_wp2_with fail
  refine (read_live HD.out.lv hN hK HT.out HA.out.id HA.out.x).mono ?_
  rintro e w1 ⟨rfl, hl, hs⟩
  have HD1 := Lib.hid (HD.out.call hl hs)
  clear hl hs HD
  have HD2 := Lib.hid (HD1.out.below (Tx.below_new w1 (.cells #[.int .i64 (read g a.id a.x).2.1.1, .int .i64 (read g a.id a.x).2.1.2] 71)))
  have HV2 := Lib.hid (Tx.Blk.new w1 #[.int .i64 (read g a.id a.x).2.1.1, .int .i64 (read g a.id a.x).2.1.2] 71)
  have v0 := HV2.out.cell 0
  have v1 := HV2.out.cell 1
  clear HD1
  have HD1 := HD2
  have r0 := HD1.out.rb.cell 0
  have r1 := HD1.out.rb.cell 1
  have rf := HD1.out.rb.free
  simp only [List.getElem?_toArray, List.getElem?_cons_zero, List.getElem?_cons_succ] at r0 r1 v0 v1
  go_wp2
  have ht := HD1.out.tell HW.out HPL.out (.int .i64 (read g a.id a.x).2.1.1) (.int .i64 (read g a.id a.x).2.1.2)
  refine bodyPost_ret (results_does rfl _ _ (w.heap.size + 1) 27 _ _ _ _ rfl rfl rfl ht.2.2 Tryz.underlying27 rval_size) rfl ?_
  exact ⟨rfl, ht.1, ht.2.1⟩
set_option maxHeartbeats 4000000 in
set_option maxRecDepth 100000 in
theorem does_k3 {w0 w : World} {P : Nat → Prop} {b N : Nat} {K : Int} {g : Eng} {a : Act} (h : Live w0 P b N K g w) (hN : N < 4000) (hK : K ≤ 100000) (hT : TabAt w0) (ha : a.ok) (hm : a.kind % 12 = 3) :
    Calls Tryz.prog 7 #[.pointer (some ⟨b, 0, none⟩), .agg (actA a)] w (DoesPost w0 P b N K g a w) := by
  have hmod := akind_mod a 3 hm
  have HD := Lib.hid (dst_first h a)
  have HA := Lib.hid ha
  have HT := Lib.hid hT
  have HM := Lib.hid hm
  have HW := Lib.hid h.bel.size
  have HPL := Lib.hid h.pl
  have hz := (zero_of_info rval_info).1
  have hz2 := (zero_of_info val_info).1
  have hbn := build_rval
  clear h ha hT hm
  unfold DoesPost
  rw [act_read (by have := HM.out; omega)]
  unfold actA at *
  go_enter Tryz.func7, Tryz.ntmps7
  go_wp2_with fail
  refine (read_live HD.out.lv hN hK HT.out HA.out.id HA.out.x).mono ?_
  rintro e w1 ⟨rfl, hl, hs⟩
  have HD1 := Lib.hid (HD.out.call hl hs)
  clear hl hs HD
  have HD2 := Lib.hid (HD1.out.below (Tx.below_new w1 (.cells #[.int .i64 (read g a.id a.x).2.1.1, .int .i64 (read g a.id a.x).2.1.2] 71)))
  have HV2 := Lib.hid (Tx.Blk.new w1 #[.int .i64 (read g a.id a.x).2.1.1, .int .i64 (read g a.id a.x).2.1.2] 71)
  have v0 := HV2.out.cell 0
  have v1 := HV2.out.cell 1
  clear HD1
  have HD1 := HD2
  have r0 := HD1.out.rb.cell 0
  have r1 := HD1.out.rb.cell 1
  have rf := HD1.out.rb.free
  simp only [List.getElem?_toArray, List.getElem?_cons_zero, List.getElem?_cons_succ] at r0 r1 v0 v1
  go_wp2
  have ht := HD1.out.tell HW.out HPL.out (.int .i64 (read g a.id a.x).2.1.1) (.int .i64 (read g a.id a.x).2.1.2)
  refine bodyPost_ret (results_does rfl _ _ (w.heap.size + 1) 27 _ _ _ _ rfl rfl rfl ht.2.2 Tryz.underlying27 rval_size) rfl ?_
  exact ⟨rfl, ht.1, ht.2.1⟩
set_option maxHeartbeats 4000000 in
set_option maxRecDepth 100000 in
theorem does_k4 {w0 w : World} {P : Nat → Prop} {b N : Nat} {K : Int} {g : Eng} {a : Act} (h : Live w0 P b N K g w) (hN : N < 4000) (hK : K ≤ 100000) (hT : TabAt w0) (ha : a.ok) (hm : a.kind % 12 = 4) :
    Calls Tryz.prog 7 #[.pointer (some ⟨b, 0, none⟩), .agg (actA a)] w (DoesPost w0 P b N K g a w) := by
  have hmod := akind_mod a 4 hm
  have HD := Lib.hid (dst_first h a)
  have HA := Lib.hid ha
  have HT := Lib.hid hT
  have HM := Lib.hid hm
  have HW := Lib.hid h.bel.size
  have HPL := Lib.hid h.pl
  have hz := (zero_of_info rval_info).1
  have hz2 := (zero_of_info val_info).1
  have hbn := build_rval
  clear h ha hT hm
  unfold DoesPost
  rw [act_read (by have := HM.out; omega)]
  unfold actA at *
  go_enter Tryz.func7, Tryz.ntmps7
  go_wp2_with fail
  refine (read_live HD.out.lv hN hK HT.out HA.out.id HA.out.x).mono ?_
  rintro e w1 ⟨rfl, hl, hs⟩
  have HD1 := Lib.hid (HD.out.call hl hs)
  clear hl hs HD
  have HD2 := Lib.hid (HD1.out.below (Tx.below_new w1 (.cells #[.int .i64 (read g a.id a.x).2.1.1, .int .i64 (read g a.id a.x).2.1.2] 71)))
  have HV2 := Lib.hid (Tx.Blk.new w1 #[.int .i64 (read g a.id a.x).2.1.1, .int .i64 (read g a.id a.x).2.1.2] 71)
  have v0 := HV2.out.cell 0
  have v1 := HV2.out.cell 1
  clear HD1
  have HD1 := HD2
  have r0 := HD1.out.rb.cell 0
  have r1 := HD1.out.rb.cell 1
  have rf := HD1.out.rb.free
  simp only [List.getElem?_toArray, List.getElem?_cons_zero, List.getElem?_cons_succ] at r0 r1 v0 v1
  go_wp2
  have ht := HD1.out.tell HW.out HPL.out (.int .i64 (read g a.id a.x).2.1.1) (.int .i64 (read g a.id a.x).2.1.2)
  refine bodyPost_ret (results_does rfl _ _ (w.heap.size + 1) 27 _ _ _ _ rfl rfl rfl ht.2.2 Tryz.underlying27 rval_size) rfl ?_
  exact ⟨rfl, ht.1, ht.2.1⟩
set_option maxHeartbeats 4000000 in
set_option maxRecDepth 100000 in
theorem does_k5 {w0 w : World} {P : Nat → Prop} {b N : Nat} {K : Int} {g : Eng} {a : Act} (h : Live w0 P b N K g w) (hN : N < 4000) (_hK : K ≤ 100000) (hT : TabAt w0) (ha : a.ok) (hm : a.kind % 12 = 5) :
    Calls Tryz.prog 7 #[.pointer (some ⟨b, 0, none⟩), .agg (actA a)] w (DoesPost w0 P b N K g a w) := by
  have hmod := akind_mod a 5 hm
  have HD := Lib.hid (dst_first h a)
  have HA := Lib.hid ha
  have HT := Lib.hid hT
  have HM := Lib.hid hm
  have HW := Lib.hid h.bel.size
  have HPL := Lib.hid h.pl
  have hz := (zero_of_info rval_info).1
  have hz2 := (zero_of_info val_info).1
  have hbn := build_rval
  clear h ha hT hm
  unfold DoesPost
  rw [act_write (by have := HM.out; omega)]
  unfold actA at *
  go_enter Tryz.func7, Tryz.ntmps7
  go_wp2_with fail
  refine (write_live HD.out.lv hN HA.out.id HA.out.x HA.out.k HA.out.n).mono ?_
  rintro e w1 ⟨rfl, hl, hs⟩
  have HD1 := Lib.hid (HD.out.call hl hs)
  clear hl hs HD
  have r0 := HD1.out.rb.cell 0
  have r1 := HD1.out.rb.cell 1
  have rf := HD1.out.rb.free
  simp only [List.getElem?_toArray, List.getElem?_cons_zero, List.getElem?_cons_succ] at r0 r1
  go_wp2
  have ht := HD1.out.tell HW.out HPL.out (.int .i64 0) (.int .i64 0)
  refine bodyPost_ret (results_does rfl _ _ (w.heap.size + 1) 27 _ _ _ _ rfl rfl rfl ht.2.2 Tryz.underlying27 rval_size) rfl ?_
  exact ⟨rfl, ht.1, ht.2.1⟩
set_option maxHeartbeats 4000000 in
set_option maxRecDepth 100000 in
theorem does_k6 {w0 w : World} {P : Nat → Prop} {b N : Nat} {K : Int} {g : Eng} {a : Act} (h : Live w0 P b N K g w) (hN : N < 4000) (_hK : K ≤ 100000) (hT : TabAt w0) (ha : a.ok) (hm : a.kind % 12 = 6) :
    Calls Tryz.prog 7 #[.pointer (some ⟨b, 0, none⟩), .agg (actA a)] w (DoesPost w0 P b N K g a w) := by
  have hmod := akind_mod a 6 hm
  have HD := Lib.hid (dst_first h a)
  have HA := Lib.hid ha
  have HT := Lib.hid hT
  have HM := Lib.hid hm
  have HW := Lib.hid h.bel.size
  have HPL := Lib.hid h.pl
  have hz := (zero_of_info rval_info).1
  have hz2 := (zero_of_info val_info).1
  have hbn := build_rval
  clear h ha hT hm
  unfold DoesPost
  rw [act_write (by have := HM.out; omega)]
  unfold actA at *
  go_enter Tryz.func7, Tryz.ntmps7
  go_wp2_with fail
  refine (write_live HD.out.lv hN HA.out.id HA.out.x HA.out.k HA.out.n).mono ?_
  rintro e w1 ⟨rfl, hl, hs⟩
  have HD1 := Lib.hid (HD.out.call hl hs)
  clear hl hs HD
  have r0 := HD1.out.rb.cell 0
  have r1 := HD1.out.rb.cell 1
  have rf := HD1.out.rb.free
  simp only [List.getElem?_toArray, List.getElem?_cons_zero, List.getElem?_cons_succ] at r0 r1
  go_wp2
  have ht := HD1.out.tell HW.out HPL.out (.int .i64 0) (.int .i64 0)
  refine bodyPost_ret (results_does rfl _ _ (w.heap.size + 1) 27 _ _ _ _ rfl rfl rfl ht.2.2 Tryz.underlying27 rval_size) rfl ?_
  exact ⟨rfl, ht.1, ht.2.1⟩
set_option maxHeartbeats 4000000 in
set_option maxRecDepth 100000 in
theorem does_k7 {w0 w : World} {P : Nat → Prop} {b N : Nat} {K : Int} {g : Eng} {a : Act} (h : Live w0 P b N K g w) (hN : N < 4000) (_hK : K ≤ 100000) (hT : TabAt w0) (ha : a.ok) (hm : a.kind % 12 = 7) :
    Calls Tryz.prog 7 #[.pointer (some ⟨b, 0, none⟩), .agg (actA a)] w (DoesPost w0 P b N K g a w) := by
  have hmod := akind_mod a 7 hm
  have HD := Lib.hid (dst_first h a)
  have HA := Lib.hid ha
  have HT := Lib.hid hT
  have HM := Lib.hid hm
  have HW := Lib.hid h.bel.size
  have HPL := Lib.hid h.pl
  have hz := (zero_of_info rval_info).1
  have hz2 := (zero_of_info val_info).1
  have hbn := build_rval
  clear h ha hT hm
  unfold DoesPost
  rw [act_write (by have := HM.out; omega)]
  unfold actA at *
  go_enter Tryz.func7, Tryz.ntmps7
  go_wp2_with fail
  refine (write_live HD.out.lv hN HA.out.id HA.out.x HA.out.k HA.out.n).mono ?_
  rintro e w1 ⟨rfl, hl, hs⟩
  have HD1 := Lib.hid (HD.out.call hl hs)
  clear hl hs HD
  have r0 := HD1.out.rb.cell 0
  have r1 := HD1.out.rb.cell 1
  have rf := HD1.out.rb.free
  simp only [List.getElem?_toArray, List.getElem?_cons_zero, List.getElem?_cons_succ] at r0 r1
  go_wp2
  have ht := HD1.out.tell HW.out HPL.out (.int .i64 0) (.int .i64 0)
  refine bodyPost_ret (results_does rfl _ _ (w.heap.size + 1) 27 _ _ _ _ rfl rfl rfl ht.2.2 Tryz.underlying27 rval_size) rfl ?_
  exact ⟨rfl, ht.1, ht.2.1⟩
set_option maxHeartbeats 4000000 in
set_option maxRecDepth 100000 in
theorem does_k8 {w0 w : World} {P : Nat → Prop} {b N : Nat} {K : Int} {g : Eng} {a : Act} (h : Live w0 P b N K g w) (hN : N < 4000) (hK : K ≤ 100000) (hT : TabAt w0) (ha : a.ok) (hm : a.kind % 12 = 8) :
    Calls Tryz.prog 7 #[.pointer (some ⟨b, 0, none⟩), .agg (actA a)] w (DoesPost w0 P b N K g a w) := by
  have hmod := akind_mod a 8 hm
  have HD := Lib.hid (dst_first h a)
  have HA := Lib.hid ha
  have HT := Lib.hid hT
  have HM := Lib.hid hm
  have HW := Lib.hid h.bel.size
  have HPL := Lib.hid h.pl
  have hz := (zero_of_info rval_info).1
  have hz2 := (zero_of_info val_info).1
  have hbn := build_rval
  clear h ha hT hm
  unfold DoesPost
  rw [act_commit (by have := HM.out; omega)]
  unfold actA at *
  go_enter Tryz.func7, Tryz.ntmps7
  go_wp2_with fail
  refine (commit_live HD.out.lv hN hK HT.out HA.out.id).mono ?_
  rintro e w1 ⟨rfl, hl, hs⟩
  have HD1 := Lib.hid (HD.out.call hl hs)
  clear hl hs HD
  have r0 := HD1.out.rb.cell 0
  have r1 := HD1.out.rb.cell 1
  have rf := HD1.out.rb.free
  simp only [List.getElem?_toArray, List.getElem?_cons_zero, List.getElem?_cons_succ] at r0 r1
  go_wp2
  have ht := HD1.out.tell HW.out HPL.out (.int .i64 0) (.int .i64 0)
  refine bodyPost_ret (results_does rfl _ _ (w.heap.size + 1) 27 _ _ _ _ rfl rfl rfl ht.2.2 Tryz.underlying27 rval_size) rfl ?_
  exact ⟨rfl, ht.1, ht.2.1⟩
set_option maxHeartbeats 4000000 in
set_option maxRecDepth 100000 in
theorem does_k9 {w0 w : World} {P : Nat → Prop} {b N : Nat} {K : Int} {g : Eng} {a : Act} (h : Live w0 P b N K g w) (hN : N < 4000) (hK : K ≤ 100000) (hT : TabAt w0) (ha : a.ok) (hm : a.kind % 12 = 9) :
    Calls Tryz.prog 7 #[.pointer (some ⟨b, 0, none⟩), .agg (actA a)] w (DoesPost w0 P b N K g a w) := by
  have hmod := akind_mod a 9 hm
  have HD := Lib.hid (dst_first h a)
  have HA := Lib.hid ha
  have HT := Lib.hid hT
  have HM := Lib.hid hm
  have HW := Lib.hid h.bel.size
  have HPL := Lib.hid h.pl
  have hz := (zero_of_info rval_info).1
  have hz2 := (zero_of_info val_info).1
  have hbn := build_rval
  clear h ha hT hm
  unfold DoesPost
  rw [act_commit (by have := HM.out; omega)]
  unfold actA at *
  go_enter Tryz.func7, Tryz.ntmps7
  go_wp2_with fail
  refine (commit_live HD.out.lv hN hK HT.out HA.out.id).mono ?_
  rintro e w1 ⟨rfl, hl, hs⟩
  have HD1 := Lib.hid (HD.out.call hl hs)
  clear hl hs HD
  have r0 := HD1.out.rb.cell 0
  have r1 := HD1.out.rb.cell 1
  have rf := HD1.out.rb.free
  simp only [List.getElem?_toArray, List.getElem?_cons_zero, List.getElem?_cons_succ] at r0 r1
  go_wp2
  have ht := HD1.out.tell HW.out HPL.out (.int .i64 0) (.int .i64 0)
  refine bodyPost_ret (results_does rfl _ _ (w.heap.size + 1) 27 _ _ _ _ rfl rfl rfl ht.2.2 Tryz.underlying27 rval_size) rfl ?_
  exact ⟨rfl, ht.1, ht.2.1⟩
set_option maxHeartbeats 4000000 in
set_option maxRecDepth 100000 in
theorem does_k10 {w0 w : World} {P : Nat → Prop} {b N : Nat} {K : Int} {g : Eng} {a : Act} (h : Live w0 P b N K g w) (_hN : N < 4000) (hK : K ≤ 100000) (hT : TabAt w0) (ha : a.ok) (hm : a.kind % 12 = 10) :
    Calls Tryz.prog 7 #[.pointer (some ⟨b, 0, none⟩), .agg (actA a)] w (DoesPost w0 P b N K g a w) := by
  have hmod := akind_mod a 10 hm
  have HD := Lib.hid (dst_first h a)
  have HA := Lib.hid ha
  have HT := Lib.hid hT
  have HM := Lib.hid hm
  have HW := Lib.hid h.bel.size
  have HPL := Lib.hid h.pl
  have hz := (zero_of_info rval_info).1
  have hz2 := (zero_of_info val_info).1
  have hbn := build_rval
  clear h ha hT hm
  unfold DoesPost
  rw [act_abort (by have := HM.out; omega)]
  unfold actA at *
  go_enter Tryz.func7, Tryz.ntmps7
  go_wp2_with fail
  refine (abort_live HD.out.lv hK HA.out.id).mono ?_
  rintro e w1 ⟨rfl, hl, hs⟩
  have HD1 := Lib.hid (HD.out.call hl hs)
  clear hl hs HD
  have r0 := HD1.out.rb.cell 0
  have r1 := HD1.out.rb.cell 1
  have rf := HD1.out.rb.free
  simp only [List.getElem?_toArray, List.getElem?_cons_zero, List.getElem?_cons_succ] at r0 r1
  go_wp2
  have ht := HD1.out.tell HW.out HPL.out (.int .i64 0) (.int .i64 0)
  refine bodyPost_ret (results_does rfl _ _ (w.heap.size + 1) 27 _ _ _ _ rfl rfl rfl ht.2.2 Tryz.underlying27 rval_size) rfl ?_
  exact ⟨rfl, ht.1.mono (Nat.le_succ _) (by omega), ht.2.1⟩
set_option maxHeartbeats 4000000 in
set_option maxRecDepth 100000 in
theorem does_k11 {w0 w : World} {P : Nat → Prop} {b N : Nat} {K : Int} {g : Eng} {a : Act} (h : Live w0 P b N K g w) (hN : N < 4000) (_hK : K ≤ 100000) (hT : TabAt w0) (ha : a.ok) (hm : a.kind % 12 = 11) :
    Calls Tryz.prog 7 #[.pointer (some ⟨b, 0, none⟩), .agg (actA a)] w (DoesPost w0 P b N K g a w) := by
  have hmod := akind_mod a 11 hm
  have HD := Lib.hid (dst_first h a)
  have HA := Lib.hid ha
  have HT := Lib.hid hT
  have HM := Lib.hid hm
  have HW := Lib.hid h.bel.size
  have HPL := Lib.hid h.pl
  have hz := (zero_of_info rval_info).1
  have hz2 := (zero_of_info val_info).1
  have hbn := build_rval
  clear h ha hT hm
  unfold DoesPost
  rw [act_back (by have := HM.out; omega)]
  unfold actA at *
  go_enter Tryz.func7, Tryz.ntmps7
  go_wp2_with fail
  refine (back_live HD.out.lv hN HA.out.id HA.out.x).mono ?_
  rintro e w1 ⟨rfl, hl, hs⟩
  have HD1 := Lib.hid (HD.out.call hl hs)
  clear hl hs HD
  have r0 := HD1.out.rb.cell 0
  have r1 := HD1.out.rb.cell 1
  have rf := HD1.out.rb.free
  simp only [List.getElem?_toArray, List.getElem?_cons_zero, List.getElem?_cons_succ] at r0 r1
  go_wp2
  have ht := HD1.out.tell HW.out HPL.out (.int .i64 0) (.int .i64 0)
  refine bodyPost_ret (results_does rfl _ _ (w.heap.size + 1) 27 _ _ _ _ rfl rfl rfl ht.2.2 Tryz.underlying27 rval_size) rfl ?_
  exact ⟨rfl, ht.1, ht.2.1⟩
theorem does_any {w0 w : World} {P : Nat → Prop} {b N : Nat} {K : Int} {g : Eng} {a : Act} (h : Live w0 P b N K g w) (hN : N < 4000) (hK : K ≤ 100000) (hT : TabAt w0) (ha : a.ok) :
    Calls Tryz.prog 7 #[.pointer (some ⟨b, 0, none⟩), .agg (actA a)] w (DoesPost w0 P b N K g a w) := by
  have hlt : a.kind % 12 < 12 := Nat.mod_lt _ (by decide)
  have cs : a.kind % 12 = 0 ∨ a.kind % 12 = 1 ∨ a.kind % 12 = 2 ∨ a.kind % 12 = 3 ∨ a.kind % 12 = 4 ∨ a.kind % 12 = 5 ∨ a.kind % 12 = 6 ∨ a.kind % 12 = 7 ∨ a.kind % 12 = 8 ∨ a.kind % 12 = 9 ∨ a.kind % 12 = 10 ∨ a.kind % 12 = 11 := by omega
  rcases cs with e | e | e | e | e | e | e | e | e | e | e | e
  · exact does_k0 h hN hK hT ha e
  · exact does_k1 h hN hK hT ha e
  · exact does_k2 h hN hK hT ha e
  · exact does_k3 h hN hK hT ha e
  · exact does_k4 h hN hK hT ha e
  · exact does_k5 h hN hK hT ha e
  · exact does_k6 h hN hK hT ha e
  · exact does_k7 h hN hK hT ha e
  · exact does_k8 h hN hK hT ha e
  · exact does_k9 h hN hK hT ha e
  · exact does_k10 h hN hK hT ha e
  · exact does_k11 h hN hK hT ha e
end Go.Proofs.YtfdfiiocccafkaaGreatDoor.En
namespace Go.Proofs.YtfdfiiocccafkaaGreatDoor.En
open Go.RowKit
attribute [local go_sem ↓] Go.wp_at_zero Go.wp_at_succ
theorem val_info0 : (Tryz.prog.info? 71).map (fun i => (i.zero, i.size)) = some (some (.agg #[.int .i64 0, .int .i64 0]), 2) := by kernel_rfl
theorem build_val (k n : Int) (w : World) : (Instr.build 71 #[(0, .int .i64 k), (1, .int .i64 n)]).run Tryz.prog w = .ok (.agg #[.int .i64 k, .int .i64 n]) w := by
  have hz := (zero_of_info val_info0).1
  have h2 := fun w => sz w (show (Tryz.prog.info? 2).map (·.size) = some 1 by kernel_rfl)
  have h3 := fun w => sz w inf_int
  unfold Instr.build
  simp only [Sem.run_bind, hz, run_underlying Tryz.underlying71, Result.andThen_ok]
  simp [h2, h3, Instr.fill, Value.cells]
theorem new22 (w : World) : Calls Tryz.prog 6 #[.int .i64 2, .int .i64 2] w fun e w' => ∃ b, e = .returned (.pointer (some ⟨b, 0, none⟩)) ∧ Live w (fun _ => False) b 0 0 (new 2 2) w' := new_live 2 2 w (by decide) (by decide)
/-- one entry that was told. -/
theorem Told.one {w : World} {base : Nat} {v : Value} {e : Ent} (h : Told w base v [e]) : ∃ q c B d, v = .slice (some ⟨q, 0, none⟩) 1 c ∧ base ≤ q ∧ q < w.heap.size ∧ w.cell? ⟨q, 0, none⟩ = some (.int .i64 e.id) ∧ w.cell? ⟨q, 1, none⟩ = some (.bool e.com) ∧ w.cell? ⟨q, 4, none⟩ = some (.slice B e.wr.length d) := by
  obtain ⟨X, ho, hx, he⟩ := h.ex
  obtain ⟨x, rfl⟩ : ∃ x, X = [x] := by
    have := congrArg List.length hx
    rw [List.length_map] at this
    exact List.length_eq_one_iff.1 this
  obtain ⟨A, c, rfl, _, _⟩ := ho.slice
  obtain ⟨q, rfl, h1, h2⟩ := ho.some_ (by simp)
  have e1 : x.1 = e := by simpa using hx
  have c0 := ho.get (j := 0) (x := x) rfl 0 (by decide)
  have c1 := ho.get (j := 0) (x := x) rfl 1 (by decide)
  have c4 := ho.get (j := 0) (x := x) rfl 4 (by decide)
  obtain ⟨_, ⟨B, d, e4, _⟩⟩ := he x (by simp)
  simp only [entC, List.getElem?_cons_succ, List.getElem?_cons_zero, Nat.zero_mul, Nat.zero_add] at c0 c1 c4
  rw [e4, e1] at c4
  rw [e1] at c0 c1
  exact ⟨q, c, B, d, rfl, h1, h2, c0, c1, c4⟩
theorem Told.len {w : World} {base : Nat} {v : Value} {L : List Ent} (h : Told w base v L) : ∃ A c, v = .slice A L.length c := by
  obtain ⟨X, ho, hx, _⟩ := h.ex
  obtain ⟨A, c, rfl, _, _⟩ := ho.slice
  exact ⟨A, c, by rw [← hx, List.length_map]⟩
set_option maxHeartbeats 8000000 in
set_option maxRecDepth 100000 in
theorem alive_any (w : World) (hT : TabAt w) : Calls Tryz.prog 17 #[] w fun e w' => e = .returned (.bool true) ∧ Below w.heap.size w w' := by
  obtain ⟨g1, g2, g3, g4, g5, h⟩ := first_look
  have H := Lib.hid h
  have HT := Lib.hid hT
  have hz2 := (zero_of_info val_info0).1
  have hbv := build_val
  clear h hT
  go_enter Tryz.func17, Tryz.ntmps17
  go_wp2_with fail
  refine (new22 w).mono ?_
  rintro e w1 ⟨b, rfl, hl⟩
  have HL1 := Lib.hid hl
  clear hl
  go_wp2_with fail
  have hc := begin_live HL1.out (by decide) (by decide) HT.out
  rw [H.out.b1] at hc
  refine hc.mono ?_
  rintro e w2 ⟨rfl, hl, _⟩
  have HL2 := Lib.hid hl
  clear hl hc
  go_wp2_with fail
  have hc := write_live HL2.out (by decide) (id := 1) (x := 0) (k := 1) (n := 5) ⟨by decide, by decide⟩ ⟨by decide, by decide⟩ ⟨by decide, by decide⟩ ⟨by decide, by decide⟩
  rw [H.out.w2] at hc
  refine hc.mono ?_
  rintro e w3 ⟨rfl, hl, _⟩
  have HL3 := Lib.hid hl
  clear hl hc
  go_wp2_with fail
  have hc := commit_live HL3.out (by decide) (by decide) HT.out (id := 1) ⟨by decide, by decide⟩
  rw [H.out.c3] at hc
  refine hc.mono ?_
  rintro e w4 ⟨rfl, hl, _⟩
  have HL4 := Lib.hid hl
  clear hl hc
  go_wp2_with fail
  have hc := begin_live HL4.out (by decide) (by decide) HT.out
  rw [H.out.b4] at hc
  refine hc.mono ?_
  rintro e w5 ⟨rfl, hl, _⟩
  have HL5 := Lib.hid hl
  clear hl hc
  go_wp2_with fail
  have hc := read_live HL5.out (by decide) (by decide) HT.out (id := 2) (x := 0) ⟨by decide, by decide⟩ ⟨by decide, by decide⟩
  rw [H.out.r5] at hc
  refine hc.mono ?_
  rintro e w6 ⟨rfl, hl, _⟩
  have HL6 := Lib.hid hl
  clear hl hc
  have HB7 := Lib.hid (Tx.Blk.new w6 #[.int .i64 1, .int .i64 5] 71)
  have HL7 := Lib.hid (HL6.out.own (Q := fun k => k = w6.heap.size) (Tx.below_new w6 (.cells #[.int .i64 1, .int .i64 5] 71)) (fun k hk => .inr ⟨by omega, by rw [Tx.size_new]; omega⟩))
  go_wp2_with fail
  generalize w6.alloc (.cells #[.int .i64 1, .int .i64 5] 71) = w7 at *
  refine (log_live HL7.out (by decide)).mono ?_
  rintro e w8 ⟨v, rfl, ht, hb⟩
  obtain ⟨e1, he, heid, hec, hew⟩ := H.out.lg
  rw [he] at ht
  obtain ⟨q, c, B, d, rfl, hq1, hq2, q0, q1, q4⟩ := ht.one
  rw [heid] at q0
  rw [hec] at q1
  rw [hew] at q4
  have HQ := Lib.hid (And.intro q0 (And.intro q1 q4))
  have HB8 := Lib.hid (HB7.out.below hb)
  have HL8 := Lib.hid (HL7.out.own (Q := fun k => k = w6.heap.size ∨ k = q) hb (fun k hk => by
    rcases hk with rfl | rfl
    · exact .inl rfl
    · exact .inr ⟨hq1, hq2⟩))
  clear ht hb q0 q1 q4 hq1 hq2 HB7 HL7
  go_wp2_with fail
  have hc := read_live HL8.out (by decide) (by decide) HT.out (id := 1) (x := 0) ⟨by decide, by decide⟩ ⟨by decide, by decide⟩
  rw [H.out.r6] at hc
  refine hc.mono ?_
  rintro e w9 ⟨rfl, hl, hs⟩
  have HL9 := Lib.hid hl
  have HB9 := Lib.hid (show Tx.Blk w9 w6.heap.size #[.int .i64 1, .int .i64 5] 71 from (hs.block _ (.inl rfl)).trans HB8.out)
  have q0 := hs.cell HQ.out.1 (.inr rfl)
  have q1 := hs.cell HQ.out.2.1 (.inr rfl)
  have q4 := hs.cell HQ.out.2.2 (.inr rfl)
  have v1 := HB9.out.cell 1
  simp only [List.getElem?_toArray, List.getElem?_cons_zero, List.getElem?_cons_succ] at v1
  have hbn := Tx.below_new w9 (.cells #[.int .i64 0, .int .i64 0] 71)
  have HLA := Lib.hid (HL9.out.below hbn)
  have q0 := (hbn.cell (p := ⟨q, 0, none⟩) (Tx.cell_lt q0)).trans q0
  have q1 := (hbn.cell (p := ⟨q, 1, none⟩) (Tx.cell_lt q1)).trans q1
  have q4 := (hbn.cell (p := ⟨q, 4, none⟩) (Tx.cell_lt q4)).trans q4
  have v1 := (hbn.cell (p := ⟨w6.heap.size, 1, none⟩) (Tx.cell_lt v1)).trans v1
  clear hbn
  clear hl hs hc HQ HB8 HL8
  go_wp2_with fail
  refine (rest_live HLA.out (by decide) HT.out).mono ?_
  rintro e w11 ⟨v, rfl, ht, hb⟩
  obtain ⟨A2, c2, rfl⟩ := ht.len
  rw [H.out.rs]
  have HLB := Lib.hid (HLA.out.below hb)
  clear ht hb q0 q1 q4 v1 HLA HL9 HB9
  go_wp2_with fail
  refine (values_live HLB.out (by decide)).mono ?_
  rintro e w12 ⟨q2, rfl, hv, hb⟩
  rw [H.out.vs]
  have HLC := Lib.hid (HLB.out.below hb)
  clear hv hb
  go_wp2
  go_ret
  exact ⟨rfl, HLC.out.bel⟩
end Go.Proofs.YtfdfiiocccafkaaGreatDoor.En
namespace Go.Proofs.YtfdfiiocccafkaaGreatDoor.En
open Go.RowKit
attribute [local go_sem ↓] Go.wp_at_zero Go.wp_at_succ
/-- a slice of acts. -/
def ActsAt (w : World) (A : Option Addr) (n c : Nat) (l : Nat → Act) : Prop :=
  n ≤ c ∧ c ≤ maxLen ∧ (0 < n → ∃ ad, A = some ad ∧ ∀ i, i < n → (l i).ok ∧ (l i).kind < 256 ∧ ∀ q u, (actA (l i))[q]? = some u → w.cell? (ad.add (i * 5 + q)) = some u)
/-- one of them, in the walk's own words. -/
structure ActAt (w : World) (p : Addr) (a : Act) : Prop where
  c0 : w.cell? p = some (.int .u8 (a.kind : Nat))
  c1 : w.cell? ⟨p.block, p.off + 1, none⟩ = some (.int .i64 a.id)
  c2 : w.cell? ⟨p.block, p.off + 2, none⟩ = some (.int .i64 a.x)
  c3 : w.cell? ⟨p.block, p.off + 3, none⟩ = some (.int .i64 a.k)
  c4 : w.cell? ⟨p.block, p.off + 4, none⟩ = some (.int .i64 a.n)
theorem ActAt.below {w w' : World} {p : Addr} {a : Act} {B : Nat} (h : ActAt w p a) (hb : Below B w w') (hB : w.heap.size ≤ B) : ActAt w' p a :=
  have k : ∀ {q : Addr} {v : Value}, w.cell? q = some v → w'.cell? q = some v := fun hq => (hb.cell (Nat.lt_of_lt_of_le (Tx.cell_lt hq) hB)).trans hq
  ⟨k h.c0, k h.c1, k h.c2, k h.c3, k h.c4⟩
theorem ActsAt.at_ {w : World} {A : Option Addr} {n c : Nat} {l : Nat → Act} (h : ActsAt w A n c l) {k : Nat} (hk : k < n) : ∃ ad, A = some ad ∧ (l k).ok ∧ (l k).kind < 256 ∧ ActAt w (ad.add (k * 5)) (l k) := by
  obtain ⟨ad, e, hc⟩ := h.2.2 (by omega)
  obtain ⟨h1, h2, h3⟩ := hc k hk
  refine ⟨ad, e, h1, h2, ?_, ?_, ?_, ?_, ?_⟩
  · exact h3 0 _ rfl
  · rw [← Tx.add_lit ad (k * 5) 0]; exact h3 1 _ rfl
  · rw [← Tx.add_lit ad (k * 5) 1]; exact h3 2 _ rfl
  · rw [← Tx.add_lit ad (k * 5) 2]; exact h3 3 _ rfl
  · rw [← Tx.add_lit ad (k * 5) 3]; exact h3 4 _ rfl
/-- the engine behind the first so many acts. -/
noncomputable def runE (n v : Int) (l : Nat → Act) : Nat → Eng
  | 0 => new n v
  | k + 1 => (act (runE n v l k) (l k)).1
theorem runE_next {n v : Int} {l : Nat → Act} {k : Nat} {a : Act} (h : l k = a) : runE n v l (k + 1) = (act (runE n v l k) a).1 := by rw [← h]; rfl
def RunRel (w0 : World) (n v : Int) (l : Nat → Act) (m b : Nat) (i : Value) (wr : World) : Prop := ∃ k : Nat, k ≤ m ∧ i = .int .i64 k ∧ Live w0 (fun _ => False) b k (k : Nat) (runE n v l k) wr
/-- a byte's rest. -/
theorem u8_rem (s r : Nat) (_hr : 0 < r) : (s : Int).tmod (r : Int) = ((s % r : Nat) : Int) := by
  rw [Int.tmod_eq_emod_of_nonneg (by omega)]; exact (Int.natCast_emod s r).symm
end Go.Proofs.YtfdfiiocccafkaaGreatDoor.En
