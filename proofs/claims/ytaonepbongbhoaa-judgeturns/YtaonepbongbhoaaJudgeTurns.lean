/-
  JudgeTurns: two that stand side by side, and have nothing to do with one another, may stand the other way round.
-/
import Derived.Test.YtaonepbongbhoaaKQ
import Derived.Test.YtaonepbongbhoaaKC
import Derived.Test.YtaonepbongbhoaaKH
namespace Go.Proofs.Ytaonepbongbhoaa.Jd
open Go.RowKit
open Az
open Hi (Ev Cr encE crs crL EvArg theirs_any entL entF Is Ge graph_any GrPost MB mat_box stepsF)
open Rp (Ent Xc encX ItAt RdX BoxX entA)
open Tx (Sp VarsAt SlAt OwnVars RowPost lvt)
theorem rise_pos {f : Int → Option Sp} {k : Nat} (h : ∀ (x : Nat) s, f (x : Nat) = some s → 0 ≤ s.x) : ∀ s ∈ Tx.rise f k, 0 ≤ s.x := fun s hs => by
  unfold Tx.rise at hs
  obtain ⟨i, _, hi⟩ := List.mem_filterMap.1 hs
  exact h _ _ hi
theorem steps_pos (L : List Ev) (f : Int → Option Nat) : ∀ s ∈ stepsF L f, 0 ≤ s.x := by
  unfold Hi.stepsF
  refine rise_pos fun x s hs => ?_
  cases hf : f (x : Nat) with
  | none => rw [hf] at hs; cases hs
  | some k =>
    rw [hf] at hs
    have := Option.some.inj hs
    rw [← this]
    unfold Hi.stOf
    split
    · exact Int.natCast_nonneg x
    · decide
theorem entF_pos (L : List Ev) (i : Nat) : ∀ s ∈ (entF L (crL L) i).wt, 0 ≤ s.x := by
  unfold Hi.entF
  split
  · unfold Hi.entC
    dsimp only
    split
    · exact steps_pos _ _
    · simp
  · simp [Hi.zeroE]
theorem two_at {o : List Int} {k : Nat} {a b : Int} (ha : o[k]? = some a) (hb : o[k + 1]? = some b) : o = o.take k ++ a :: b :: o.drop (k + 2) ∧ (o.set k b).set (k + 1) a = o.take k ++ b :: a :: o.drop (k + 2) := by
  have h1 := (List.getElem?_eq_some_iff.1 ha)
  have h2 := (List.getElem?_eq_some_iff.1 hb)
  obtain ⟨q1, e1⟩ := h1
  obtain ⟨q2, e2⟩ := h2
  have hd1 : o.drop k = a :: o.drop (k + 1) := by rw [List.drop_eq_getElem_cons q1, e1]
  have hd2 : o.drop (k + 1) = b :: o.drop (k + 2) := by rw [List.drop_eq_getElem_cons q2, e2]
  have ho : o = o.take k ++ a :: b :: o.drop (k + 2) := by rw [← hd2, ← hd1, List.take_append_drop]
  refine ⟨ho, ?_⟩
  have hl : (o.take k).length = k := by rw [List.length_take]; omega
  conv => lhs; rw [ho]
  rw [List.set_append_right _ _ (by omega), hl, Nat.sub_self, List.set_cons_zero, List.set_append_right _ _ (by omega), hl, show k + 1 - k = 1 by omega]
  simp
theorem turn_fit {L : List Ev} {o : List Int} {k : Nat} {a b : Int} (h : Fit L o) (ha : o[k]? = some a) (hb : o[k + 1]? = some b) (hg : ¬ Ge (crL L) (a - 1).toNat (b - 1).toNat) (hap : Apart (entF L (crL L) (a - 1).toNat) (entF L (crL L) (b - 1).toNat)) : Fit L ((o.set k b).set (k + 1) a) := by
  obtain ⟨h1, h2⟩ := two_at ha hb
  rw [h2]
  rw [h1] at h
  exact fit_turn h hg hap
theorem edge_ge {L : List Ev} {m : Mm.Gr} {i j : Nat} (h : Is m (Ge (crL L))) (hi : i < 32) (hj : j < 32) (he : edge m (i : Nat) (j : Nat) = false) : ¬ Ge (crL L) i j := fun hg => by
  have ht := (h.is i j hi).2 hg
  have : (Mm.outs m i).testBit j = true := (Mm.outs_test m i j).2 ⟨hi, hj, ht⟩
  unfold edge at he
  simp [this] at he
/-- what JudgeTurns has: what lay there since a world, and the order, a row of one's own behind it. -/
structure TS (w w5 : World) (B : Option Addr) (L : List Ev) (q : Nat) (m : Mm.Gr) (g c : Nat) (o : List Int) (W : World) : Prop where
  fe : Rn.At encE w5 B L
  fm : MatAt w5 q m 36
  fb : Below w.heap.size w w5
  ow : Rn.Own Hi.encI W w5.heap.size 3 (.slice (some ⟨g, 0, none⟩) o.length c) o
  sin : Below w5.heap.size w5 W
section
variable {w w5 : World} {B : Option Addr} {L : List Ev} {q : Nat} {m : Mm.Gr} {g c : Nat} {o : List Int} {W : World}
theorem TS.below {W' : World} (h : TS w w5 B L q m g c o W) (hb : Below W.heap.size W W') : TS w w5 B L q m g c o W' := ⟨h.fe, h.fm, h.fb, h.ow.below hb (Nat.le_refl _), h.sin.trans (hb.mono h.sin.size)⟩
theorem TS.drew (h : TS w w5 B L q m g c o W) : TS w w5 B L q m g c o W.drew := h.below (Below.refl _ _).drew
theorem TS.bx (h : TS w w5 B L q m g c o W) : MatAt W q m 36 := (h.sin.block q h.fm.lt).trans h.fm
theorem TS.ev (h : TS w w5 B L q m g c o W) : Rn.At encE W B L := h.fe.below h.sin (Nat.le_refl _)
theorem TS.bel (h : TS w w5 B L q m g c o W) : Below w.heap.size w W := h.fb.trans (h.sin.mono h.fb.size)
theorem TS.cell (h : TS w w5 B L q m g c o W) {k : Nat} {x : Int} (hk : o[k]? = some x) : W.cell? ⟨g, k, none⟩ = some (.int .i64 x) := by
  have := h.ow.get hk 0 (by decide)
  simpa using this
theorem TS.free (h : TS w w5 B L q m g c o W) (k : Nat) : W.frozen? ⟨g, k, none⟩ = false := h.ow.free k
theorem TS.lt (h : TS w w5 B L q m g c o W) : w5.heap.size ≤ g ∧ g < W.heap.size := own_fresh h.ow g rfl
end
/-- an entry in a box. -/
structure Bx (b : Nat) (y : Xc) (W : World) : Prop where
  is : BoxX W b 44 y
theorem Bx.below {b : Nat} {y : Xc} {W W' : World} (h : Bx b y W) (hb : Below W.heap.size W W') : Bx b y W' := ⟨h.is.below hb h.is.lt⟩
/-- an entry's box, still nought. -/
structure Bz (b : Nat) (W : World) : Prop where
  is : W.heap[b]? = some (.cells #[.int .i64 0, .bool false, .bool false, .slice none 0 0, .slice none 0 0] 44 (0, 0))
theorem Bz.lt {b : Nat} {W : World} (h : Bz b W) : b < W.heap.size := (Array.getElem?_eq_some_iff.1 h.is).1
theorem Bz.below {b : Nat} {W W' : World} (h : Bz b W) (hb : Below W.heap.size W W') : Bz b W' := ⟨(hb.block b h.lt).trans h.is⟩
theorem ent_all (y : Xc) : (entA y).all (·.oneCell') = true := Hi.ent_one y
theorem step_store_ent {w : World} {ops : Array Oper} {op : Oper} {a : Go.Act} {K : Go.Act → World → Prop} {Q : Exit → Go.Act → World → Prop} {E : Prop} (hgd : op.guard = none) (ty : TypeId) (x y : Operand) (ho : op.op = .store ty x y) (hds : op.dst = none)
    (b : Nat) (v : Xc) (hx : a.eval x = .pointer (some ⟨b, 0, none⟩)) (hy : a.eval y = .agg (entA v)) (h : Bz b w) (hi : (Try.prog.info? ty).map (·.size) = some (entA v).size)
    (hK : K a (w.setRow b (entA v))) : if Region.wanted op (yielded ops a.tmps) = true then Oper.wp Try.prog op a w K Q else E := by
  have hw : Region.wanted op (yielded ops a.tmps) = true := by simp [Region.wanted, hgd]
  rw [if_pos hw]
  refine wp_store_row ty x y ho b (entA v) hx hy _ _ h.is hi rfl (ent_all v) ?_
  rw [hds]; exact hK
theorem Bz.put {b : Nat} {W : World} (h : Bz b W) (y : Xc) : Bx b y (W.setRow b (entA y)) := ⟨⟨setRow_heap _ _ _ _ _ _ h.is⟩⟩
/-- both entries in their boxes. -/
structure T2 (w w5 : World) (B : Option Addr) (L : List Ev) (q : Nat) (m : Mm.Gr) (g c : Nat) (o : List Int) (b1 b2 : Nat) (y1 y2 : Xc) (W : World) : Prop where
  ts : TS w w5 B L q m g c o W
  x1 : BoxX W b1 44 y1
  x2 : BoxX W b2 44 y2
  r1 : RdX W y1
  r2 : RdX W y2
section
variable {w w5 : World} {B : Option Addr} {L : List Ev} {q : Nat} {m : Mm.Gr} {g c : Nat} {o : List Int} {b1 b2 : Nat} {y1 y2 : Xc} {W : World}
theorem T2.below {W' : World} (h : T2 w w5 B L q m g c o b1 b2 y1 y2 W) (hb : Below W.heap.size W W') : T2 w w5 B L q m g c o b1 b2 y1 y2 W' :=
  ⟨h.ts.below hb, h.x1.below hb h.x1.lt, h.x2.below hb h.x2.lt, h.r1.below hb (Nat.le_refl _), h.r2.below hb (Nat.le_refl _)⟩
theorem T2.drew (h : T2 w w5 B L q m g c o b1 b2 y1 y2 W) : T2 w w5 B L q m g c o b1 b2 y1 y2 W.drew := h.below (Below.refl _ _).drew
end
/-- and a variable's number in a box. -/
structure T3 (w w5 : World) (B : Option Addr) (L : List Ev) (q : Nat) (m : Mm.Gr) (g c : Nat) (o : List Int) (b1 b2 : Nat) (y1 y2 : Xc) (bx : Nat) (x : Int) (W : World) : Prop where
  t2 : T2 w w5 B L q m g c o b1 b2 y1 y2 W
  cx : W.cell? ⟨bx, 0, none⟩ = some (.int .i64 x)
section
variable {w w5 : World} {B : Option Addr} {L : List Ev} {q : Nat} {m : Mm.Gr} {g c : Nat} {o : List Int} {b1 b2 : Nat} {y1 y2 : Xc} {bx : Nat} {x : Int} {W : World}
theorem T3.below {W' : World} (h : T3 w w5 B L q m g c o b1 b2 y1 y2 bx x W) (hb : Below W.heap.size W W') : T3 w w5 B L q m g c o b1 b2 y1 y2 bx x W' :=
  ⟨h.t2.below hb, (hb.cell (p := ⟨bx, 0, none⟩) (Rn.cell_lt h.cx)).trans h.cx⟩
theorem T3.drew (h : T3 w w5 B L q m g c o b1 b2 y1 y2 bx x W) : T3 w w5 B L q m g c o b1 b2 y1 y2 bx x W.drew := h.below (Below.refl _ _).drew
end
def ApTo (P M : List Sp) (k : Nat) : Prop := ∀ (p : Nat) (s : Sp), p < k → P[p]? = some s → ∀ t ∈ M, s.x ≠ t.x
def ApIn (x : Int) (M : List Sp) (k : Nat) : Prop := ∀ (p : Nat) (t : Sp), p < k → M[p]? = some t → x ≠ t.x
def ToRel (w w5 : World) (B : Option Addr) (L : List Ev) (q : Nat) (m : Mm.Gr) (g c : Nat) (o : List Int) (b1 b2 : Nat) (y1 y2 : Xc) (P M : List Sp) (i : Value) (wr : World) : Prop := ∃ k : Nat, k ≤ P.length ∧ i = .int .i64 k ∧ T2 w w5 B L q m g c o b1 b2 y1 y2 wr ∧ ApTo P M k
def TiRel2 (w w5 : World) (B : Option Addr) (L : List Ev) (q : Nat) (m : Mm.Gr) (g c : Nat) (o : List Int) (b1 b2 : Nat) (y1 y2 : Xc) (bx : Nat) (x : Int) (A : Option Addr) (M : List Sp) (i : Value) (wr : World) : Prop := ∃ k : Nat, k ≤ M.length ∧ i = .int .i64 k ∧ T3 w w5 B L q m g c o b1 b2 y1 y2 bx x wr ∧ VarsAt wr A M ∧ ApIn x M k
theorem ApTo.more {P M : List Sp} {k : Nat} {s : Sp} (h : ApTo P M k) (hs : P[k]? = some s) (hi : ApIn s.x M M.length) : ApTo P M (k + 1) := fun p t hp ht u hu => by
  by_cases e : p = k
  · subst e
    rw [hs] at ht
    obtain rfl := Option.some.inj ht
    obtain ⟨r, hr⟩ := List.mem_iff_getElem?.1 hu
    exact hi r u (List.getElem?_eq_some_iff.1 hr).1 hr
  · exact h p t (by omega) ht u hu
theorem ApTo.all {P M : List Sp} (h : ApTo P M P.length) : ∀ s ∈ P, ∀ t ∈ M, s.x ≠ t.x := fun s hs t ht => by
  obtain ⟨r, hr⟩ := List.mem_iff_getElem?.1 hs
  exact h r s (List.getElem?_eq_some_iff.1 hr).1 hr t ht
theorem ApIn.more {x : Int} {M : List Sp} {k : Nat} {t : Sp} (h : ApIn x M k) (ht : M[k]? = some t) (hne : x ≠ t.x) : ApIn x M (k + 1) := fun p s hp hs => by
  by_cases e : p = k
  · subst e
    rw [ht] at hs
    obtain rfl := Option.some.inj hs
    exact hne
  · exact h p s (by omega) hs
set_option maxRecDepth 100000 in
set_option maxHeartbeats 16000000 in
theorem judgeTurns_walk (A : Option Addr) (n c : Nat) (L : List Ev) (a1 : Nat) (w : World) (h : EvArg w A n c L) (ha1 : a1 ≤ 255) :
    Calls Try.prog 4 #[.slice A n c, .int .u8 (a1 : Nat)] w fun e w' => e = .returned (.bool true) ∧ Below w.heap.size w w' := by
  obtain ⟨rfl, hnc, hcm, hat, hok⟩ := h
  have H := Lib.hid hat
  have HOK := Lib.hid hok
  have hN : (L.length : Int) ≤ 9223372036854775807 := by unfold maxLen at hcm; omega
  clear hat hok hnc hcm
  by_cases hl : L.length ≤ 100
  · have HL := Lib.hid (show L.length ≤ 2000 from by omega)
    have HL3 := Lib.hid (show L.length ≤ 300 from by omega)
    have HLN := Lib.hid (fndO_len HL.out)
    have HN32 := Lib.hid (Hi.crL_ok HL.out).2
    go_enter Try.func4, Try.ntmps4
    go_wp2_with fail
    refine (jalive_any _).mono ?_
    rintro r w1 ⟨rfl, hb1⟩
    have HB1 := Lib.hid hb1
    clear hb1
    go_wp2_with fail
    refine (theirs_any A c L w1 (H.out.below HB1.out (Nat.le_refl _)) HL3.out).mono ?_
    rintro r w2 ⟨B2, d2, rfl, _, _, hat2, hb2⟩
    have HB2 := Lib.hid (HB1.out.trans (hb2.mono HB1.out.size))
    have HA2 := Lib.hid hat2
    clear hat2 hb2 HB1
    have HG := Lib.hid (graph_any B2 d2 L w2 HA2.out HOK.out HL.out)
    unfold GrPost at HG
    go_wp2_with fail
    refine HG.out.mono ?_
    rintro r w4 ⟨m, rfl, his, hb4⟩
    have HIS := Lib.hid his
    have HB4 := Lib.hid (HB2.out.trans (hb4.mono HB2.out.size))
    have HA4 := Lib.hid (at_below HA2.out hb4)
    clear his hb4 HG HB2 HA2
    go_wp2_with (refine wpList_store_row rfl 36 (.tmp 6) (.tmp 32) rfl w4.heap.size (matA m) rfl rfl 36 _ (heap_alloc_new _ _) (matInfo m) (by rw [matA_size]; rfl) (matA_one _) ?_; generalize hw5 : World.setRow _ w4.heap.size (matA m) = w5)
    have HX := Lib.hid (show MB w4 m w5 from by rw [← hw5]; exact mat_box w4 m)
    clear hw5
    have HA5 := Lib.hid (at_below HA4.out HX.out.bel)
    have HB5 := Lib.hid (HB4.out.trans (HX.out.bel.mono HB4.out.size))
    have HM5 := Lib.hid HX.out.bx
    clear HX HA4 HB4
    generalize w4.heap.size = q at HM5 ⊢
    refine (find_any B2 d2 L w5 HA5.out HOK.out HL.out).mono ?_
    unfold FindPost
    rintro r w6 ⟨v, rfl, hown, hb6⟩
    have HOW := Lib.hid hown
    have HB6 := Lib.hid hb6
    clear hown hb6
    cases hfb : fndB L with
    | false =>
      clear hfb
      obtain ⟨A3, d3, rfl, _, _, _, _⟩ := HOW.out.slice
      go_wp2
      go_ret
      exact ⟨rfl, HB5.out.trans (HB6.out.mono HB5.out.size)⟩
    | true =>
      clear hfb
      obtain ⟨o, ho⟩ : ∃ o, o = fndO L := ⟨_, rfl⟩
      rw [← ho] at HOW HLN
      clear ho
      rcases Nat.lt_or_ge o.length 2 with hz | hz
      · obtain ⟨A3, d3, rfl, _, _, _, _⟩ := HOW.out.slice
        have b0 : (o.length : Int) < 2 := by omega
        clear hz
        go_wp2
        go_ret
        exact ⟨rfl, HB5.out.trans (HB6.out.mono HB5.out.size)⟩
      · obtain ⟨g, d3, rfl, hg1, hg2, hg3, hg4⟩ := own_some HOW.out (by omega)
        have HT6 := Lib.hid (show TS w w5 B2 L q m g d3 o w6 from ⟨HA5.out, HM5.out, HB5.out, HOW.out, HB6.out⟩)
        have hgat : Rn.At Hi.encI w6 (some ⟨g, 0, none⟩) o := by
          obtain ⟨_, _, e, _, _, h3, _⟩ := HOW.out.slice
          rw [(Value.slice.inj e).1]; exact h3
        have HO6 := Lib.hid hgat
        have HGC := Lib.hid (show o.length ≤ d3 ∧ d3 ≤ maxLen from ⟨hg3, hg4⟩)
        have b0 : ¬ (o.length : Int) < 2 := by omega
        have hoN : (o.length : Int) ≤ 32 := by have := HLN.out; omega
        clear hgat hg1 hg2 hg3 hg4 HOW
        go_wp2_with fail
        refine (fits_any B2 (some ⟨g, 0, none⟩) d2 d3 L o w6 HT6.out.ev HOK.out HL.out HO6.out HGC.out.1 HGC.out.2 (by have := HLN.out; omega)).mono ?_
        rintro r w7 ⟨rfl, hb7⟩
        have HT7 := Lib.hid (HT6.out.below hb7)
        clear hb7 HT6 HO6
        cases hft : fitB L o with
        | false =>
          clear hft
          go_wp2
          go_ret
          exact ⟨rfl, HT7.out.bel⟩
        | true =>
          have HFT := Lib.hid ((fitB_iff L o).1 hft)
          clear hft
          obtain ⟨k, hk⟩ : ∃ k : Nat, k = a1 % (o.length - 1) := ⟨_, rfl⟩
          have hkl : k + 1 < o.length := by have := Nat.mod_lt a1 (show 0 < o.length - 1 by omega); omega
          have hrem : Int.tmod ((a1 : Nat) : Int) ((o.length : Int) - 1) = (k : Nat) := by
            rw [show (o.length : Int) - 1 = ((o.length - 1 : Nat) : Int) by omega, Int.tmod_eq_emod_of_nonneg (by omega), hk]
            exact (Int.natCast_emod a1 (o.length - 1)).symm
          obtain ⟨x, hx⟩ : ∃ x, o[k]? = some x := ⟨_, List.getElem?_eq_getElem (by omega)⟩
          obtain ⟨y, hy⟩ : ∃ y, o[k + 1]? = some y := ⟨_, List.getElem?_eq_getElem hkl⟩
          have hxi := HFT.out.inn x (List.mem_of_getElem? hx)
          have hyi := HFT.out.inn y (List.mem_of_getElem? hy)
          obtain ⟨i, rfl⟩ : ∃ i : Nat, x = (i : Int) + 1 := ⟨(x - 1).toNat, by omega⟩
          obtain ⟨j, rfl⟩ : ∃ j : Nat, y = (j : Int) + 1 := ⟨(y - 1).toNat, by omega⟩
          obtain ⟨k1, hk1⟩ : ∃ k1 : Nat, k1 = k + 1 := ⟨_, rfl⟩
          rw [← hk1] at hy
          have HK1 := Lib.hid hk1
          have HX := Lib.hid hx
          have HY := Lib.hid hy
          have HI := Lib.hid (show i < (crL L).length ∧ i < 32 by have := HN32.out; omega)
          have HJ := Lib.hid (show j < (crL L).length ∧ j < 32 by have := HN32.out; omega)
          have e0 : (k : Int) + 1 = (k1 : Int) := by omega
          have e1 : (i : Int) + 1 - 1 = (i : Int) := by omega
          have e2 : (j : Int) + 1 - 1 = (j : Int) := by omega
          have W0 : IntKind.i64.wrap (k1 : Int) = (k1 : Int) := by rw [IntKind.wrap_i64]; omega
          have W1 : IntKind.i64.wrap (i : Int) = (i : Int) := by rw [IntKind.wrap_i64]; have := HI.out; omega
          have W2 : IntKind.i64.wrap (j : Int) = (j : Int) := by rw [IntKind.wrap_i64]; have := HJ.out; omega
          have hkL : (k : Int) < (o.length : Int) := by omega
          have hk0 : (0 : Int) ≤ (k : Int) := by omega
          have hkL1 : (k1 : Int) < (o.length : Int) := by omega
          have hk10 : (0 : Int) ≤ (k1 : Int) := by omega
          have hne0 : (o.length : Int) - 1 ≠ 0 := by omega
          have HKL := Lib.hid hkl
          have HE0 := Lib.hid e0
          have HE1 := Lib.hid e1
          have HE2 := Lib.hid e2
          clear hx hy hxi hyi hk hk1 e0 e1 e2 hkl
          cases hed : edge m (i : Nat) (j : Nat) with
          | true =>
            have HED := Lib.hid hed
            clear hed
            go_wp2
            refine wp_region_noPanic ?_
            refine region_z 13 (fun W => TS w w5 B2 L q m g d3 o W) 13 1000 rfl (by kernel_rfl) (by exact HT7.out.drew) (fun hHeld => ?_)
            refine take_d [12] 0 58 (.agg (matA m)) rfl rfl (by kernel_rfl) (by kernel_rfl) (by kernel_rfl) (by kernel_rfl) (fun _ _ _ h => h) (yields_mat rfl 36 (.tmp 6) rfl q rfl 36 m (fun W hW => hW.bx) Try.underlying36 (matInfo m)) hHeld ?_
            simp only [put_laws]
            refine take_d [3, 4, 5, 12] 1 59 (.slice (some ⟨g, 0, none⟩) o.length d3) rfl rfl (by kernel_rfl) (by kernel_rfl) (by kernel_rfl) (by kernel_rfl) (fun _ _ _ h => h) (Or.inl ⟨by rfl, by intro W hW; clear hW; go_simp⟩) hHeld ?_
            simp only [put_laws]
            refine take_d [3, 4, 5, 12] 2 60 (.int .i64 (k : Nat)) rfl rfl (by kernel_rfl) (by kernel_rfl) (by kernel_rfl) (by kernel_rfl) (fun _ _ _ h => h) (Or.inl ⟨by rfl, by intro W hW; clear hW; go_simp⟩) hHeld ?_
            simp only [put_laws]
            refine take_d [4, 5, 12] 3 61 (.pointer (some ⟨g, k, none⟩)) rfl rfl (by kernel_rfl) (by kernel_rfl) (by kernel_rfl) (by kernel_rfl) (fun _ _ _ h => h) (Or.inl ⟨by rfl, by intro W hW; have g0 := hkL; have g1 := hk0; clear hW; go_simp⟩) hHeld ?_
            simp only [put_laws]
            refine take_d [5, 12] 4 62 (.int .i64 ((i : Int) + 1)) rfl rfl (by kernel_rfl) (by kernel_rfl) (by kernel_rfl) (by kernel_rfl) (fun _ _ _ h => h) (Or.inl ⟨by rfl, by intro W hW; have c0 := hW.cell HX.out; clear hW; go_simp⟩) hHeld ?_
            simp only [put_laws]
            refine take_d [12] 5 63 (.int .i64 (i : Nat)) rfl rfl (by kernel_rfl) (by kernel_rfl) (by kernel_rfl) (by kernel_rfl) (fun _ _ _ h => h) (Or.inl ⟨by rfl, by intro W hW; have ee := HE1.out; have ew := W1; clear hW; go_simp⟩) hHeld ?_
            simp only [put_laws]
            refine take_d [9, 10, 11, 12] 6 64 (.slice (some ⟨g, 0, none⟩) o.length d3) rfl rfl (by kernel_rfl) (by kernel_rfl) (by kernel_rfl) (by kernel_rfl) (fun _ _ _ h => h) (Or.inl ⟨by rfl, by intro W hW; clear hW; go_simp⟩) hHeld ?_
            simp only [put_laws]
            refine take_d [8, 9, 10, 11, 12] 7 65 (.int .i64 (k : Nat)) rfl rfl (by kernel_rfl) (by kernel_rfl) (by kernel_rfl) (by kernel_rfl) (fun _ _ _ h => h) (Or.inl ⟨by rfl, by intro W hW; clear hW; go_simp⟩) hHeld ?_
            simp only [put_laws]
            refine take_d [9, 10, 11, 12] 8 66 (.int .i64 (k1 : Nat)) rfl rfl (by kernel_rfl) (by kernel_rfl) (by kernel_rfl) (by kernel_rfl) (fun _ _ _ h => h) (Or.inl ⟨by rfl, by intro W hW; have ee := HE0.out; have ew := W0; clear hW; go_simp⟩) hHeld ?_
            simp only [put_laws]
            refine take_d [10, 11, 12] 9 67 (.pointer (some ⟨g, k1, none⟩)) rfl rfl (by kernel_rfl) (by kernel_rfl) (by kernel_rfl) (by kernel_rfl) (fun _ _ _ h => h) (Or.inl ⟨by rfl, by intro W hW; have g0 := hkL1; have g1 := hk10; clear hW; go_simp⟩) hHeld ?_
            simp only [put_laws]
            refine take_d [11, 12] 10 68 (.int .i64 ((j : Int) + 1)) rfl rfl (by kernel_rfl) (by kernel_rfl) (by kernel_rfl) (by kernel_rfl) (fun _ _ _ h => h) (Or.inl ⟨by rfl, by intro W hW; have c0 := hW.cell HY.out; clear hW; go_simp⟩) hHeld ?_
            simp only [put_laws]
            refine take_d [12] 11 69 (.int .i64 (j : Nat)) rfl rfl (by kernel_rfl) (by kernel_rfl) (by kernel_rfl) (by kernel_rfl) (fun _ _ _ h => h) (Or.inl ⟨by rfl, by intro W hW; have ee := HE2.out; have ew := W2; clear hW; go_simp⟩) hHeld ?_
            simp only [put_laws]
            refine anyZ_ready (rs := [12]) (by kernel_rfl) (by simp) ?_
            refine AllZ.cons rfl (fun K hK => ?_) AllZ.nil
            go_simp
            refine (mhas_in m i (j : Nat) _ HIS.out.ok HI.out.2 (by omega) (by have := HJ.out; omega)).mono ?_
            rintro e w8 ⟨rfl, hb⟩
            try go_simp
            have hPrev := hHeld
            have hHeld := hHeld.below hb
            rw [HED.out]
            clear hPrev
            refine hK.out _ _ hHeld (fun hHeld => ?_)
            clear hK K
            refine anyZ_done (by kernel_rfl) ?_ _
            refine NoPanic.normal ?_
            go_wp2
            go_ret
            exact ⟨rfl, hHeld.bel⟩
          | false =>
            have HED := Lib.hid hed
            clear hed
            go_wp2
            refine wp_region_noPanic ?_
            refine region_z 13 (fun W => TS w w5 B2 L q m g d3 o W) 13 1000 rfl (by kernel_rfl) (by exact HT7.out.drew) (fun hHeld => ?_)
            refine take_d [12] 0 58 (.agg (matA m)) rfl rfl (by kernel_rfl) (by kernel_rfl) (by kernel_rfl) (by kernel_rfl) (fun _ _ _ h => h) (yields_mat rfl 36 (.tmp 6) rfl q rfl 36 m (fun W hW => hW.bx) Try.underlying36 (matInfo m)) hHeld ?_
            simp only [put_laws]
            refine take_d [3, 4, 5, 12] 1 59 (.slice (some ⟨g, 0, none⟩) o.length d3) rfl rfl (by kernel_rfl) (by kernel_rfl) (by kernel_rfl) (by kernel_rfl) (fun _ _ _ h => h) (Or.inl ⟨by rfl, by intro W hW; clear hW; go_simp⟩) hHeld ?_
            simp only [put_laws]
            refine take_d [3, 4, 5, 12] 2 60 (.int .i64 (k : Nat)) rfl rfl (by kernel_rfl) (by kernel_rfl) (by kernel_rfl) (by kernel_rfl) (fun _ _ _ h => h) (Or.inl ⟨by rfl, by intro W hW; clear hW; go_simp⟩) hHeld ?_
            simp only [put_laws]
            refine take_d [4, 5, 12] 3 61 (.pointer (some ⟨g, k, none⟩)) rfl rfl (by kernel_rfl) (by kernel_rfl) (by kernel_rfl) (by kernel_rfl) (fun _ _ _ h => h) (Or.inl ⟨by rfl, by intro W hW; have g0 := hkL; have g1 := hk0; clear hW; go_simp⟩) hHeld ?_
            simp only [put_laws]
            refine take_d [5, 12] 4 62 (.int .i64 ((i : Int) + 1)) rfl rfl (by kernel_rfl) (by kernel_rfl) (by kernel_rfl) (by kernel_rfl) (fun _ _ _ h => h) (Or.inl ⟨by rfl, by intro W hW; have c0 := hW.cell HX.out; clear hW; go_simp⟩) hHeld ?_
            simp only [put_laws]
            refine take_d [12] 5 63 (.int .i64 (i : Nat)) rfl rfl (by kernel_rfl) (by kernel_rfl) (by kernel_rfl) (by kernel_rfl) (fun _ _ _ h => h) (Or.inl ⟨by rfl, by intro W hW; have ee := HE1.out; have ew := W1; clear hW; go_simp⟩) hHeld ?_
            simp only [put_laws]
            refine take_d [9, 10, 11, 12] 6 64 (.slice (some ⟨g, 0, none⟩) o.length d3) rfl rfl (by kernel_rfl) (by kernel_rfl) (by kernel_rfl) (by kernel_rfl) (fun _ _ _ h => h) (Or.inl ⟨by rfl, by intro W hW; clear hW; go_simp⟩) hHeld ?_
            simp only [put_laws]
            refine take_d [8, 9, 10, 11, 12] 7 65 (.int .i64 (k : Nat)) rfl rfl (by kernel_rfl) (by kernel_rfl) (by kernel_rfl) (by kernel_rfl) (fun _ _ _ h => h) (Or.inl ⟨by rfl, by intro W hW; clear hW; go_simp⟩) hHeld ?_
            simp only [put_laws]
            refine take_d [9, 10, 11, 12] 8 66 (.int .i64 (k1 : Nat)) rfl rfl (by kernel_rfl) (by kernel_rfl) (by kernel_rfl) (by kernel_rfl) (fun _ _ _ h => h) (Or.inl ⟨by rfl, by intro W hW; have ee := HE0.out; have ew := W0; clear hW; go_simp⟩) hHeld ?_
            simp only [put_laws]
            refine take_d [10, 11, 12] 9 67 (.pointer (some ⟨g, k1, none⟩)) rfl rfl (by kernel_rfl) (by kernel_rfl) (by kernel_rfl) (by kernel_rfl) (fun _ _ _ h => h) (Or.inl ⟨by rfl, by intro W hW; have g0 := hkL1; have g1 := hk10; clear hW; go_simp⟩) hHeld ?_
            simp only [put_laws]
            refine take_d [11, 12] 10 68 (.int .i64 ((j : Int) + 1)) rfl rfl (by kernel_rfl) (by kernel_rfl) (by kernel_rfl) (by kernel_rfl) (fun _ _ _ h => h) (Or.inl ⟨by rfl, by intro W hW; have c0 := hW.cell HY.out; clear hW; go_simp⟩) hHeld ?_
            simp only [put_laws]
            refine take_d [12] 11 69 (.int .i64 (j : Nat)) rfl rfl (by kernel_rfl) (by kernel_rfl) (by kernel_rfl) (by kernel_rfl) (fun _ _ _ h => h) (Or.inl ⟨by rfl, by intro W hW; have ee := HE2.out; have ew := W2; clear hW; go_simp⟩) hHeld ?_
            simp only [put_laws]
            refine anyZ_ready (rs := [12]) (by kernel_rfl) (by simp) ?_
            refine AllZ.cons rfl (fun K hK => ?_) AllZ.nil
            go_simp
            refine (mhas_in m i (j : Nat) _ HIS.out.ok HI.out.2 (by omega) (by have := HJ.out; omega)).mono ?_
            rintro e w8 ⟨rfl, hb⟩
            try go_simp
            have hPrev := hHeld
            have hHeld := hHeld.below hb
            rw [HED.out]
            clear hPrev
            refine hK.out _ _ hHeld (fun hHeld => ?_)
            clear hK K
            refine anyZ_done (by kernel_rfl) ?_ _
            refine NoPanic.normal ?_
            have HT8 := Lib.hid hHeld
            have HNG := Lib.hid (edge_ge HIS.out HI.out.2 HJ.out.2 HED.out)
            clear hHeld
            go_wp2_with fail
            refine (Hi.entries_any B2 d2 L w8 HT8.out.ev HOK.out HL.out).mono ?_
            rintro r w9 ⟨E, dE, X, rfl, _, _, hit, hb9⟩
            have HT9 := Lib.hid (HT8.out.below hb9)
            have HIT := Lib.hid hit
            clear hit hb9
            rw [entL_len]
            obtain ⟨ae, yi, hAe, hXi, hei, hri, h5i⟩ := HIT.out.at_ (j := i) (by rw [entL_len]; exact HI.out.1)
            obtain ⟨ae2, yj, hAe2, hXj, hej, hrj, h5j⟩ := HIT.out.at_ (j := j) (by rw [entL_len]; exact HJ.out.1)
            have hyi : yi.e = entF L (crL L) i := Option.some.inj (hei.symm.trans (entL_at HI.out.1))
            have hyj : yj.e = entF L (crL L) j := Option.some.inj (hej.symm.trans (entL_at HJ.out.1))
            rw [hAe] at hAe2
            obtain rfl := Option.some.inj hAe2
            subst hAe
            have HYI := Lib.hid hyi
            have HYJ := Lib.hid hyj
            have HRI := Lib.hid hri
            have HRJ := Lib.hid hrj
            have H5I := Lib.hid h5i
            have H5J := Lib.hid h5j
            have hiL : (i : Int) < ((crL L).length : Int) := by have := HI.out; omega
            have hjL : (j : Int) < ((crL L).length : Int) := by have := HJ.out; omega
            have hi0 : (0 : Int) ≤ (i : Int) := by omega
            have hj0 : (0 : Int) ≤ (j : Int) := by omega
            clear hXi hXj hei hej hri hrj h5i h5j hyi hyj hAe2
            go_wp2
            refine wp_region_noPanic ?_
            refine region_z 21 (fun W => Below w9.heap.size w9 W) 20 1000 rfl (by kernel_rfl) (by exact (Below.refl _ _).drew) (fun hHeld => ?_)
            refine take_d [6, 7, 19, 20] 0 73 (.slice (some ae) (crL L).length dE) rfl rfl (by kernel_rfl) (by kernel_rfl) (by kernel_rfl) (by kernel_rfl) (fun _ _ _ h => h) (Or.inl ⟨by rfl, by intro W hW; clear hW; go_simp⟩) hHeld ?_
            simp only [put_laws]
            refine take_d [3, 4, 5, 6, 7, 19, 20] 1 74 (.slice (some ⟨g, 0, none⟩) o.length d3) rfl rfl (by kernel_rfl) (by kernel_rfl) (by kernel_rfl) (by kernel_rfl) (fun _ _ _ h => h) (Or.inl ⟨by rfl, by intro W hW; clear hW; go_simp⟩) hHeld ?_
            simp only [put_laws]
            refine take_d [3, 4, 5, 6, 7, 19, 20] 2 75 (.int .i64 (k : Nat)) rfl rfl (by kernel_rfl) (by kernel_rfl) (by kernel_rfl) (by kernel_rfl) (fun _ _ _ h => h) (Or.inl ⟨by rfl, by intro W hW; clear hW; go_simp⟩) hHeld ?_
            simp only [put_laws]
            refine take_d [4, 5, 6, 7, 19, 20] 3 76 (.pointer (some ⟨g, k, none⟩)) rfl rfl (by kernel_rfl) (by kernel_rfl) (by kernel_rfl) (by kernel_rfl) (fun _ _ _ h => h) (Or.inl ⟨by rfl, by intro W hW; have g0 := hkL; have g1 := hk0; clear hW; go_simp⟩) hHeld ?_
            simp only [put_laws]
            refine take_d [5, 6, 7, 19, 20] 4 77 (.int .i64 ((i : Int) + 1)) rfl rfl (by kernel_rfl) (by kernel_rfl) (by kernel_rfl) (by kernel_rfl) (fun _ _ _ h => h) (Or.inl ⟨by rfl, by intro W hW; have c0 := (HT9.out.below hW).cell HX.out; clear hW; go_simp⟩) hHeld ?_
            simp only [put_laws]
            refine take_d [6, 7, 19, 20] 5 78 (.int .i64 (i : Nat)) rfl rfl (by kernel_rfl) (by kernel_rfl) (by kernel_rfl) (by kernel_rfl) (fun _ _ _ h => h) (Or.inl ⟨by rfl, by intro W hW; have ee := HE1.out; have ew := W1; clear hW; go_simp⟩) hHeld ?_
            simp only [put_laws]
            refine take_d [7, 19, 20] 6 79 (.pointer (some (ae.add (i * 5)))) rfl rfl (by kernel_rfl) (by kernel_rfl) (by kernel_rfl) (by kernel_rfl) (fun _ _ _ h => h) (Or.inl ⟨by rfl, by intro W hW; have g0 := hiL; have g1 := hi0; clear hW; go_simp⟩) hHeld ?_
            simp only [put_laws]
            refine take_d [19, 20] 7 80 (.agg #[.int .i64 yi.e.id, .bool yi.e.com, .bool yi.e.ovr, .slice yi.A yi.e.rd.length yi.c, .slice yi.B yi.e.wt.length yi.d]) rfl rfl (by kernel_rfl) (by kernel_rfl) (by kernel_rfl) (by kernel_rfl) (fun _ _ _ h => h) (Or.inl ⟨by rfl, by intro W hW; have h5 := (H5I.out); obtain ⟨q0, q1, q2, q3, q4⟩ := h5; have z0 := (hW.cell (Rn.cell_lt q0)).trans q0; have z1 := (hW.cell (Rn.cell_lt q1)).trans q1; have z2 := (hW.cell (Rn.cell_lt q2)).trans q2; have z3 := (hW.cell (Rn.cell_lt q3)).trans q3; have z4 := (hW.cell (Rn.cell_lt q4)).trans q4; clear q0 q1 q2 q3 q4; clear hW; go_simp⟩) hHeld ?_
            simp only [put_laws]
            refine take_d [15, 16, 20] 8 81 (.slice (some ae) (crL L).length dE) rfl rfl (by kernel_rfl) (by kernel_rfl) (by kernel_rfl) (by kernel_rfl) (fun _ _ _ h => h) (Or.inl ⟨by rfl, by intro W hW; clear hW; go_simp⟩) hHeld ?_
            simp only [put_laws]
            refine take_d [12, 13, 14, 15, 16, 20] 9 82 (.slice (some ⟨g, 0, none⟩) o.length d3) rfl rfl (by kernel_rfl) (by kernel_rfl) (by kernel_rfl) (by kernel_rfl) (fun _ _ _ h => h) (Or.inl ⟨by rfl, by intro W hW; clear hW; go_simp⟩) hHeld ?_
            simp only [put_laws]
            refine take_d [11, 12, 13, 14, 15, 16, 20] 10 83 (.int .i64 (k : Nat)) rfl rfl (by kernel_rfl) (by kernel_rfl) (by kernel_rfl) (by kernel_rfl) (fun _ _ _ h => h) (Or.inl ⟨by rfl, by intro W hW; clear hW; go_simp⟩) hHeld ?_
            simp only [put_laws]
            refine take_d [12, 13, 14, 15, 16, 20] 11 84 (.int .i64 (k1 : Nat)) rfl rfl (by kernel_rfl) (by kernel_rfl) (by kernel_rfl) (by kernel_rfl) (fun _ _ _ h => h) (Or.inl ⟨by rfl, by intro W hW; have ee := HE0.out; have ew := W0; clear hW; go_simp⟩) hHeld ?_
            simp only [put_laws]
            refine take_d [13, 14, 15, 16, 20] 12 85 (.pointer (some ⟨g, k1, none⟩)) rfl rfl (by kernel_rfl) (by kernel_rfl) (by kernel_rfl) (by kernel_rfl) (fun _ _ _ h => h) (Or.inl ⟨by rfl, by intro W hW; have g0 := hkL1; have g1 := hk10; clear hW; go_simp⟩) hHeld ?_
            simp only [put_laws]
            refine take_d [14, 15, 16, 20] 13 86 (.int .i64 ((j : Int) + 1)) rfl rfl (by kernel_rfl) (by kernel_rfl) (by kernel_rfl) (by kernel_rfl) (fun _ _ _ h => h) (Or.inl ⟨by rfl, by intro W hW; have c0 := (HT9.out.below hW).cell HY.out; clear hW; go_simp⟩) hHeld ?_
            simp only [put_laws]
            refine take_d [15, 16, 20] 14 87 (.int .i64 (j : Nat)) rfl rfl (by kernel_rfl) (by kernel_rfl) (by kernel_rfl) (by kernel_rfl) (fun _ _ _ h => h) (Or.inl ⟨by rfl, by intro W hW; have ee := HE2.out; have ew := W2; clear hW; go_simp⟩) hHeld ?_
            simp only [put_laws]
            refine take_d [16, 20] 15 88 (.pointer (some (ae.add (j * 5)))) rfl rfl (by kernel_rfl) (by kernel_rfl) (by kernel_rfl) (by kernel_rfl) (fun _ _ _ h => h) (Or.inl ⟨by rfl, by intro W hW; have g0 := hjL; have g1 := hj0; clear hW; go_simp⟩) hHeld ?_
            simp only [put_laws]
            refine take_d [20] 16 89 (.agg #[.int .i64 yj.e.id, .bool yj.e.com, .bool yj.e.ovr, .slice yj.A yj.e.rd.length yj.c, .slice yj.B yj.e.wt.length yj.d]) rfl rfl (by kernel_rfl) (by kernel_rfl) (by kernel_rfl) (by kernel_rfl) (fun _ _ _ h => h) (Or.inl ⟨by rfl, by intro W hW; have h5 := (H5J.out); obtain ⟨q0, q1, q2, q3, q4⟩ := h5; have z0 := (hW.cell (Rn.cell_lt q0)).trans q0; have z1 := (hW.cell (Rn.cell_lt q1)).trans q1; have z2 := (hW.cell (Rn.cell_lt q2)).trans q2; have z3 := (hW.cell (Rn.cell_lt q3)).trans q3; have z4 := (hW.cell (Rn.cell_lt q4)).trans q4; clear q0 q1 q2 q3 q4; clear hW; go_simp⟩) hHeld ?_
            simp only [put_laws]
            refine anyZ_ready (rs := [17, 18]) (by kernel_rfl) (by simp) ?_
            refine AllZ.cons rfl (fun K hK => ?_) (AllZ.cons rfl (fun K hK => ?_) AllZ.nil)
            · go_simp
              have hZa : Bz (w9.heap.size) ((w9.alloc (.cells #[.int .i64 0, .bool false, .bool false, .slice none 0 0, .slice none 0 0] 44)).drew) := ⟨heap_alloc_new (w9.drew) _⟩
              have hge_ba : w9.heap.size ≤ w9.heap.size := Nat.le_refl _
              have hPrev := hHeld
              have hHeld := hHeld.trans ((show Below _ _ ((w9.alloc (.cells #[.int .i64 0, .bool false, .bool false, .slice none 0 0, .slice none 0 0] 44)).drew) from Rn.below_new (w9.drew) (.cells #[.int .i64 0, .bool false, .bool false, .slice none 0 0, .slice none 0 0] 44)).mono hHeld.size)
              generalize (w9.alloc (.cells #[.int .i64 0, .bool false, .bool false, .slice none 0 0, .slice none 0 0] 44)).drew = w10 at *
              clear hPrev
              refine hK.out _ _ hHeld (fun hHeld => ?_)
              clear hK K
              refine anyZ_ready (rs := [18]) (by kernel_rfl) (by simp) ?_
              refine AllZ.cons rfl (fun K hK => ?_) AllZ.nil
              go_simp
              have hZb : Bz (w10.heap.size) ((w10.alloc (.cells #[.int .i64 0, .bool false, .bool false, .slice none 0 0, .slice none 0 0] 44))) := ⟨heap_alloc_new (w10) _⟩
              have hge_bb : w9.heap.size ≤ w10.heap.size := hHeld.size
              have hPrev := hHeld
              have hHeld := hHeld.trans ((show Below _ _ ((w10.alloc (.cells #[.int .i64 0, .bool false, .bool false, .slice none 0 0, .slice none 0 0] 44))) from Rn.below_new (w10) (.cells #[.int .i64 0, .bool false, .bool false, .slice none 0 0, .slice none 0 0] 44)).mono hHeld.size)
              have hne : w9.heap.size ≠ w10.heap.size := Nat.ne_of_lt hZa.lt
              have hZa := hZa.below (show Below _ _ ((w10.alloc (.cells #[.int .i64 0, .bool false, .bool false, .slice none 0 0, .slice none 0 0] 44))) from Rn.below_new (w10) (.cells #[.int .i64 0, .bool false, .bool false, .slice none 0 0, .slice none 0 0] 44))
              generalize (w10.alloc (.cells #[.int .i64 0, .bool false, .bool false, .slice none 0 0, .slice none 0 0] 44)) = w11 at *
              clear hPrev
              refine hK.out _ _ hHeld (fun hHeld => ?_)
              clear hK K
              refine anyZ_ready (rs := [19]) (by kernel_rfl) (by simp) ?_
              refine AllZ.cons rfl (fun K hK => ?_) AllZ.nil
              refine step_store_ent rfl 44 (.tmp 12) (.tmp 80) rfl rfl (w9.heap.size) yi rfl rfl hZa Hi.ent_size ?_
              have hBa := hZa.put yi
              have hZb2 : Bz (w10.heap.size) (World.setRow _ (w9.heap.size) (entA yi)) := ⟨(setRow_other _ _ _ _ (by first | exact hne | exact hne.symm)).trans hZb.is⟩
              have hHeld := hHeld.trans (setRow_below (cs := entA yi) (Below.refl _ _) hge_ba)
              clear hZa hZb
              generalize World.setRow _ (w9.heap.size) (entA yi) = w12 at *
              refine hK.out _ _ hHeld (fun hHeld => ?_)
              clear hK K
              refine anyZ_ready (rs := [20]) (by kernel_rfl) (by simp) ?_
              refine AllZ.last rfl rfl (fun K hK => ?_)
              refine step_store_ent rfl 44 (.tmp 13) (.tmp 89) rfl rfl (w10.heap.size) yj rfl rfl hZb2 Hi.ent_size ?_
              have hBb := hZb2.put yj
              have hBa2 : Bx (w9.heap.size) yi (World.setRow _ (w10.heap.size) (entA yj)) := ⟨⟨(setRow_other _ _ _ _ (by first | exact hne | exact hne.symm)).trans hBa.is.is⟩⟩
              have hH9 := hHeld.trans (setRow_below (cs := entA yj) (Below.refl _ _) hge_bb)
              have HT13 := Lib.hid (show T2 w w5 B2 L q m g d3 o (w9.heap.size) (w10.heap.size) yi yj _ from ⟨HT9.out.below hH9, hBa2.is, hBb.is, HRI.out.below hH9 (Nat.le_refl _), HRJ.out.below hH9 (Nat.le_refl _)⟩)
              clear hBa hBb hBa2 hZb2 hH9 hHeld hge_ba hge_bb hne
              generalize World.setRow _ (w10.heap.size) (entA yj) = w13 at HT13 ⊢
              refine hK.out _ _ ?_
              clear hK K
              generalize w9.heap.size = ba at HT13 ⊢
              generalize w10.heap.size = bb at HT13 ⊢
              refine anyZ_done (by kernel_rfl) ?_ _
              refine NoPanic.normal ?_
              obtain ⟨ei, A1, c1, B1, d1⟩ := yi
              obtain ⟨ej, A2, c2, B22, d22⟩ := yj
              have HFI := Lib.hid (show ei.rd.length ≤ 300 ∧ ei.wt.length ≤ 300 from by have := entF_few L i; rw [← HYI.out] at this; exact this)
              have HFJ := Lib.hid (show ej.rd.length ≤ 300 ∧ ej.wt.length ≤ 300 from by have := entF_few L j; rw [← HYJ.out] at this; exact this)
              obtain ⟨M, hM⟩ : ∃ M, M = ej.rd ++ ej.wt := ⟨_, rfl⟩
              have HM := Lib.hid hM
              have hMN : (M.length : Int) ≤ 600 := by rw [hM, List.length_append]; have := HFJ.out; omega
              have hN1 : (ei.rd.length : Int) ≤ 300 := by have := HFI.out; omega
              have hN2 : (ei.wt.length : Int) ≤ 300 := by have := HFI.out; omega
              have hN3 : (ej.wt.length : Int) ≤ 300 := by have := HFJ.out; omega
              clear hM
              have c4 := HT13.out.x1.c4
              go_wp2
              go_loopw [93] (ToRel w w5 B2 L q m g d3 o ba bb ⟨ei, A1, c1, B1, d1⟩ ⟨ej, A2, c2, B22, d22⟩ ei.wt M) (fun i _ => ei.wt.length - (intOf i).toNat)
              case atStart => exact ⟨0, Nat.zero_le _, rfl, HT13.out, fun p s hp => absurd hp (Nat.not_lt_zero _)⟩
              case round =>
                obtain ⟨p, hp, rfl, ht2, hap⟩ := hrel
                have HT := Lib.hid ht2
                have HAP := Lib.hid hap
                clear ht2 hap c4
                by_cases hlt : p < ei.wt.length
                · obtain ⟨ad, s, hA, hs, _, h4⟩ := HT.out.r1.wt.at_.at_ hlt
                  have hA : B1 = some ad := hA
                  subst hA
                  have HS := Lib.hid hs
                  have HPL := Lib.hid hlt
                  obtain ⟨s0, s1, s2, s3⟩ := h4
                  have hlt' : (p : Int) < (ei.wt.length : Int) := by omega
                  have h0 : (0 : Int) ≤ (p : Int) := by omega
                  have HBW := Lib.hid (Rn.below_new wr (.cells #[.int .i64 s.x, .int .i64 s.k, .int .i64 s.n, .bool s.wr] 48))
                  have HT3 := Lib.hid (show T3 w w5 B2 L q m g d3 o ba bb ⟨ei, A1, c1, some ad, d1⟩ ⟨ej, A2, c2, B22, d22⟩ wr.heap.size s.x (wr.alloc (.cells #[.int .i64 s.x, .int .i64 s.k, .int .i64 s.n, .bool s.wr] 48)) from
                    ⟨HT.out.below HBW.out, cell_of_row _ wr.heap.size 0 _ _ (0, 0) (heap_alloc_new _ _)⟩)
                  clear hs hlt HBW
                  go_wp2
                  generalize wr.alloc (.cells #[.int .i64 s.x, .int .i64 s.k, .int .i64 s.n, .bool s.wr] 48) = w14 at HT3 ⊢
                  generalize wr.heap.size = bx at HT3 ⊢
                  clear s0 s1 s2 s3
                  refine wp_region_noPanic ?_
                  refine region_z 8 (fun W => Below w14.heap.size w14 W) 8 1000 rfl (by kernel_rfl) (by exact (Below.refl _ _).drew) (fun hHeld => ?_)
                  refine take_d [1, 2, 5, 6] 0 97 (.pointer (some ⟨bb, 3, none⟩)) rfl rfl (by kernel_rfl) (by kernel_rfl) (by kernel_rfl) (by kernel_rfl) (fun _ _ _ h => h) (Or.inl ⟨by rfl, by intro W hW; clear hW; go_simp⟩) hHeld ?_
                  simp only [put_laws]
                  refine take_d [2, 5, 6] 1 98 (.slice A2 ej.rd.length c2) rfl rfl (by kernel_rfl) (by kernel_rfl) (by kernel_rfl) (by kernel_rfl) (fun _ _ _ h => h) (Or.inl ⟨by rfl, by intro W hW; have hc := (HT3.out.below hW).t2.x2.c3; clear hW; go_simp⟩) hHeld ?_
                  simp only [put_laws]
                  refine take_d [4, 5, 6] 3 100 (.pointer (some ⟨bb, 4, none⟩)) rfl rfl (by kernel_rfl) (by kernel_rfl) (by kernel_rfl) (by kernel_rfl) (fun _ _ _ h => h) (Or.inl ⟨by rfl, by intro W hW; clear hW; go_simp⟩) hHeld ?_
                  simp only [put_laws]
                  refine take_d [5, 6] 4 101 (.slice B22 ej.wt.length d22) rfl rfl (by kernel_rfl) (by kernel_rfl) (by kernel_rfl) (by kernel_rfl) (fun _ _ _ h => h) (Or.inl ⟨by rfl, by intro W hW; have hc := (HT3.out.below hW).t2.x2.c4; clear hW; go_simp⟩) hHeld ?_
                  simp only [put_laws]
                  refine take_d [] 7 104 (.int .i64 0) rfl rfl (by kernel_rfl) (by kernel_rfl) (by kernel_rfl) (by kernel_rfl) (fun _ _ _ h => h) (Or.inl ⟨by rfl, by intro W hW; clear hW; go_simp⟩) hHeld ?_
                  simp only [put_laws]
                  refine anyZ_ready (rs := [2]) (by kernel_rfl) (by simp) ?_
                  refine AllZ.cons rfl (fun K hK => ?_) AllZ.nil
                  go_simp
                  refine (Rp.sclone_any A2 c2 ej.rd _ (HT3.out.below hHeld).t2.r2.rd.at_ HFJ.out.1).mono ?_
                  rintro e w15 ⟨v15, rfl, ho15, hb⟩
                  try go_simp
                  have hPrev := hHeld
                  have hHeld := hHeld.trans (hb.mono hHeld.size)
                  have hle15 := hb.size
                  have hlo15 := hPrev.size
                  clear hPrev
                  refine hK.out _ _ hHeld (fun hHeld => ?_)
                  clear hK K
                  refine anyZ_ready (rs := [5]) (by kernel_rfl) (by simp) ?_
                  refine AllZ.cons rfl (fun K hK => ?_) AllZ.nil
                  refine Hi.step_append_vars lvt rfl (.tmp 99) (.tmp 101) rfl rfl ho15 _ _ ej.wt rfl rfl (HT3.out.below hHeld).t2.r2.wt.at_ (by have := HFJ.out; omega) hle15 ?_
                  intro v16 w16 ho16 hg16
                  have hHeld := hHeld.trans ((Hi.vars_grown ho15 hg16 hle15).mono hlo15)
                  rw [← HM.out] at ho16
                  obtain ⟨A16, c16, rfl, h16a, h16b, h16c⟩ := ho16.slice
                  clear hg16 ho15 ho16 hle15 hlo15
                  try go_simp
                  refine hK.out _ _ hHeld (fun hHeld => ?_)
                  clear hK K
                  refine take_d [] 6 103 (.int .i64 (M.length : Nat)) rfl rfl (by kernel_rfl) (by kernel_rfl) (by kernel_rfl) (by kernel_rfl) (fun _ _ _ h => h) (Or.inl ⟨by rfl, by intro W hW; clear hW; go_simp⟩) hHeld ?_
                  simp only [put_laws]
                  refine anyZ_done (by kernel_rfl) ?_ _
                  refine NoPanic.normal ?_
                  have HT16 := Lib.hid (HT3.out.below hHeld)
                  have HV16 := Lib.hid h16c
                  clear hHeld h16a h16b h16c
                  go_wp2
                  go_loopw [104] (TiRel2 w w5 B2 L q m g d3 o ba bb ⟨ei, A1, c1, some ad, d1⟩ ⟨ej, A2, c2, B22, d22⟩ bx s.x A16 M) (fun i _ => M.length - (intOf i).toNat)
                  case atStart => exact ⟨0, Nat.zero_le _, rfl, HT16.out, HV16.out, fun p t hp => absurd hp (Nat.not_lt_zero _)⟩
                  case round =>
                    obtain ⟨r, hr, rfl, ht3, hva, hin⟩ := hrel
                    have HT3 := Lib.hid ht3
                    have HVA := Lib.hid hva
                    have HIN := Lib.hid hin
                    clear ht3 hva hin
                    by_cases hlt2 : r < M.length
                    · obtain ⟨ad2, t, hA2, ht, _, h4⟩ := HVA.out.at_ hlt2
                      subst hA2
                      have HTT := Lib.hid ht
                      obtain ⟨t0, t1, t2, t3⟩ := h4
                      have HR := Lib.hid hlt2
                      have hlt2' : (r : Int) < (M.length : Int) := by omega
                      have hr0 : (0 : Int) ≤ (r : Int) := by omega
                      have HBW := Lib.hid (Rn.below_new wr (.cells #[.int .i64 t.x, .int .i64 t.k, .int .i64 t.n, .bool t.wr] 48))
                      have HT4 := Lib.hid (HT3.out.below HBW.out)
                      have cx := HT4.out.cx
                      clear ht hlt2
                      by_cases heq : s.x = t.x
                      · have b1 : (s.x == t.x) = true := beq_iff_eq.2 heq
                        clear heq
                        go_wp2
                        go_ret
                        exact ⟨rfl, HT4.out.t2.ts.bel⟩
                      · have b1 : (s.x == t.x) = false := beq_eq_false_iff_ne.2 heq
                        have HNE := Lib.hid heq
                        clear heq
                        go_wp2
                        go_roundw
                        case rel => exact ⟨r + 1, by have := HR.out; omega, by go_num, HT4.out, HVA.out.below HBW.out (Nat.le_refl _), HIN.out.more HTT.out HNE.out⟩
                        case measure => simp [intOf]; have := HR.out; omega
                    · have hlt2' : ¬ (r : Int) < (M.length : Int) := by omega
                      obtain rfl : r = M.length := by omega
                      go_wp2
                      exact ⟨⟨p + 1, by have := HPL.out; omega, by go_num, HT3.out.t2, HAP.out.more HS.out HIN.out⟩, by simp [intOf]; have := HPL.out; omega⟩
                · have hlt' : ¬ (p : Int) < (ei.wt.length : Int) := by omega
                  obtain rfl : p = ei.wt.length := by omega
                  have HAL1 := Lib.hid HAP.out.all
                  have c4 := HT.out.x2.c4
                  go_wp2
                  go_loopw [118] (ToRel w w5 B2 L q m g d3 o ba bb ⟨ei, A1, c1, B1, d1⟩ ⟨ej, A2, c2, B22, d22⟩ ej.wt ei.rd) (fun i _ => ej.wt.length - (intOf i).toNat)
                  case atStart => exact ⟨0, Nat.zero_le _, rfl, HT.out, fun p s hp => absurd hp (Nat.not_lt_zero _)⟩
                  case round =>
                    obtain ⟨p, hp, rfl, ht2, hap⟩ := hrel
                    have HT := Lib.hid ht2
                    have HAP := Lib.hid hap
                    clear ht2 hap
                    by_cases hlt : p < ej.wt.length
                    · obtain ⟨ad, s, hA, hs, _, h4⟩ := HT.out.r2.wt.at_.at_ hlt
                      have hA : B22 = some ad := hA
                      subst hA
                      have HS := Lib.hid hs
                      have HPL := Lib.hid hlt
                      obtain ⟨s0, s1, s2, s3⟩ := h4
                      have hlt' : (p : Int) < (ej.wt.length : Int) := by omega
                      have h0 : (0 : Int) ≤ (p : Int) := by omega
                      have HBW := Lib.hid (Rn.below_new wr (.cells #[.int .i64 s.x, .int .i64 s.k, .int .i64 s.n, .bool s.wr] 48))
                      have HT5 := Lib.hid (show T3 w w5 B2 L q m g d3 o ba bb ⟨ei, A1, c1, B1, d1⟩ ⟨ej, A2, c2, some ad, d22⟩ wr.heap.size s.x (wr.alloc (.cells #[.int .i64 s.x, .int .i64 s.k, .int .i64 s.n, .bool s.wr] 48)) from
                        ⟨HT.out.below HBW.out, cell_of_row _ wr.heap.size 0 _ _ (0, 0) (heap_alloc_new _ _)⟩)
                      have HVA0 := Lib.hid (show VarsAt (wr.alloc (.cells #[.int .i64 s.x, .int .i64 s.k, .int .i64 s.n, .bool s.wr] 48)) A1 ei.rd from HT5.out.t2.r1.rd.at_)
                      have c3 := HT5.out.t2.x1.c3
                      clear hs hlt c4
                      go_wp2
                      go_loopw [125] (TiRel2 w w5 B2 L q m g d3 o ba bb ⟨ei, A1, c1, B1, d1⟩ ⟨ej, A2, c2, some ad, d22⟩ wr.heap.size s.x A1 ei.rd) (fun i _ => ei.rd.length - (intOf i).toNat)
                      case atStart => exact ⟨0, Nat.zero_le _, rfl, HT5.out, HVA0.out, fun p t hp => absurd hp (Nat.not_lt_zero _)⟩
                      case round =>
                        obtain ⟨r, hr, rfl, ht3, hva, hin⟩ := hrel
                        have HT3 := Lib.hid ht3
                        have HVA := Lib.hid hva
                        have HIN := Lib.hid hin
                        clear ht3 hva hin
                        by_cases hlt2 : r < ei.rd.length
                        · obtain ⟨ad2, t, hA2, ht, _, h4⟩ := HVA.out.at_ hlt2
                          subst hA2
                          have HTT := Lib.hid ht
                          obtain ⟨t0, t1, t2, t3⟩ := h4
                          have HR := Lib.hid hlt2
                          have hlt2' : (r : Int) < (ei.rd.length : Int) := by omega
                          have hr0 : (0 : Int) ≤ (r : Int) := by omega
                          have HBW := Lib.hid (Rn.below_new wr (.cells #[.int .i64 t.x, .int .i64 t.k, .int .i64 t.n, .bool t.wr] 48))
                          have HT4 := Lib.hid (HT3.out.below HBW.out)
                          have cx := HT4.out.cx
                          clear ht hlt2
                          by_cases heq : s.x = t.x
                          · have b1 : (s.x == t.x) = true := beq_iff_eq.2 heq
                            clear heq
                            go_wp2
                            go_ret
                            exact ⟨rfl, HT4.out.t2.ts.bel⟩
                          · have b1 : (s.x == t.x) = false := beq_eq_false_iff_ne.2 heq
                            have HNE := Lib.hid heq
                            clear heq
                            go_wp2
                            go_roundw
                            case rel => exact ⟨r + 1, by have := HR.out; omega, by go_num, HT4.out, HVA.out.below HBW.out (Nat.le_refl _), HIN.out.more HTT.out HNE.out⟩
                            case measure => simp [intOf]; have := HR.out; omega
                        · have hlt2' : ¬ (r : Int) < (ei.rd.length : Int) := by omega
                          obtain rfl : r = ei.rd.length := by omega
                          go_wp2
                          exact ⟨⟨p + 1, by have := HPL.out; omega, by go_num, HT3.out.t2, HAP.out.more HS.out HIN.out⟩, by simp [intOf]; have := HPL.out; omega⟩
                    · have hlt' : ¬ (p : Int) < (ej.wt.length : Int) := by omega
                      obtain rfl : p = ej.wt.length := by omega
                      have HAL := Lib.hid HAP.out.all
                      have ck := HT.out.ts.cell HX.out
                      have ck1 := HT.out.ts.cell HY.out
                      have fk := HT.out.ts.free k
                      have fk1 := HT.out.ts.free k1
                      have hkk : k ≠ k1 := by have := HK1.out; omega
                      have ew : IntKind.i64.wrap ((k : Int) + 1) = (k1 : Int) := by rw [HE0.out]; exact W0
                      clear c4
                      go_wp2
                      go_region
                      have hp1 := HT.out.ts.ow.put HX.out 0 (by decide) (.int .i64 ((j : Int) + 1)) (v' := (j : Int) + 1) rfl
                      have hp2 := hp1.put (j := k1) (v := (j : Int) + 1) (by rw [List.getElem?_set_ne hkk]; exact HY.out) 0 (by decide) (.int .i64 ((i : Int) + 1)) (v' := (i : Int) + 1) rfl
                      simp only [Nat.mul_one, Nat.add_zero] at hp2
                      have hg5 := HT.out.ts.lt.1
                      have hbw : Below w5.heap.size wr ((wr.setCell ⟨g, k, none⟩ (.int .i64 ((j : Int) + 1))).setCell ⟨g, k1, none⟩ (.int .i64 ((i : Int) + 1))).drew := (((Below.refl w5.heap.size wr).setCell hg5 _).setCell hg5 _).drew
                      have hp3 := hp2.below (B := (((wr.setCell ⟨g, k, none⟩ (.int .i64 ((j : Int) + 1))).setCell ⟨g, k1, none⟩ (.int .i64 ((i : Int) + 1)))).heap.size) (Below.refl _ _).drew (Nat.le_refl _)
                      have HB17 := Lib.hid (HT.out.ts.sin.trans hbw)
                      have HO17 := Lib.hid hp3
                      generalize World.drew _ = w17 at HB17 HO17 ⊢
                      have HFW := Lib.hid (show Fit L ((o.set k ((j : Int) + 1)).set k1 ((i : Int) + 1)) from by
                        have hy := HY.out
                        rw [HK1.out] at hy ⊢
                        refine turn_fit HFT.out HX.out hy ?_ ?_
                        · rw [show ((i : Int) + 1 - 1).toNat = i by omega, show ((j : Int) + 1 - 1).toNat = j by omega]; exact HNG.out
                        · rw [show ((i : Int) + 1 - 1).toNat = i by omega, show ((j : Int) + 1 - 1).toNat = j by omega, ← HYI.out, ← HYJ.out]
                          have h1 := HAL1.out
                          have h2 := HAL.out
                          rw [HM.out] at h1
                          exact ⟨fun s hs t ht => h1 s hs t (List.mem_append_right _ ht), fun s hs t ht => h1 s hs t (List.mem_append_left _ ht), fun s hs t ht e => h2 t ht s hs e.symm, by
                            have := entF_pos L i
                            rw [← HYI.out] at this
                            exact this, by
                            have := entF_pos L j
                            rw [← HYJ.out] at this
                            exact this⟩)
                      have HAT := Lib.hid (show Rn.At Hi.encI w17 (some ⟨g, 0, none⟩) ((o.set k ((j : Int) + 1)).set k1 ((i : Int) + 1)) from by
                        obtain ⟨_, _, e, _, _, h3, _⟩ := HO17.out.slice
                        rw [(Value.slice.inj e).1]; exact h3)
                      have HEV := Lib.hid (HT.out.ts.fe.below HB17.out (Nat.le_refl _))
                      have HQ := Lib.hid (fits_any B2 (some ⟨g, 0, none⟩) d2 d3 L ((o.set k ((j : Int) + 1)).set k1 ((i : Int) + 1)) w17 HEV.out HOK.out HL.out HAT.out (by rw [List.length_set, List.length_set]; exact HGC.out.1) HGC.out.2 (by rw [List.length_set, List.length_set]; have := HLN.out; omega))
                      rw [List.length_set, List.length_set, fitB_yes HFW.out] at HQ
                      have HB18 := Lib.hid (HB5.out.trans (HB17.out.mono HB5.out.size))
                      clear hp1 hp2 hp3 hbw ck ck1 fk fk1
                      go_wp2_with fail
                      refine HQ.out.mono ?_
                      rintro r w18 ⟨rfl, hb18⟩
                      have HB19 := Lib.hid (HB18.out.trans (hb18.mono HB18.out.size))
                      clear hb18
                      go_wp2
                      go_ret
                      exact ⟨rfl, HB19.out⟩
            · go_simp
              have hZb : Bz (w9.heap.size) ((w9.alloc (.cells #[.int .i64 0, .bool false, .bool false, .slice none 0 0, .slice none 0 0] 44)).drew) := ⟨heap_alloc_new (w9.drew) _⟩
              have hge_bb : w9.heap.size ≤ w9.heap.size := Nat.le_refl _
              have hPrev := hHeld
              have hHeld := hHeld.trans ((show Below _ _ ((w9.alloc (.cells #[.int .i64 0, .bool false, .bool false, .slice none 0 0, .slice none 0 0] 44)).drew) from Rn.below_new (w9.drew) (.cells #[.int .i64 0, .bool false, .bool false, .slice none 0 0, .slice none 0 0] 44)).mono hHeld.size)
              generalize (w9.alloc (.cells #[.int .i64 0, .bool false, .bool false, .slice none 0 0, .slice none 0 0] 44)).drew = w11 at *
              clear hPrev
              refine hK.out _ _ hHeld (fun hHeld => ?_)
              clear hK K
              refine anyZ_ready (rs := [17]) (by kernel_rfl) (by simp) ?_
              refine AllZ.cons rfl (fun K hK => ?_) AllZ.nil
              go_simp
              have hZa : Bz (w11.heap.size) ((w11.alloc (.cells #[.int .i64 0, .bool false, .bool false, .slice none 0 0, .slice none 0 0] 44))) := ⟨heap_alloc_new (w11) _⟩
              have hge_ba : w9.heap.size ≤ w11.heap.size := hHeld.size
              have hPrev := hHeld
              have hHeld := hHeld.trans ((show Below _ _ ((w11.alloc (.cells #[.int .i64 0, .bool false, .bool false, .slice none 0 0, .slice none 0 0] 44))) from Rn.below_new (w11) (.cells #[.int .i64 0, .bool false, .bool false, .slice none 0 0, .slice none 0 0] 44)).mono hHeld.size)
              have hne : w9.heap.size ≠ w11.heap.size := Nat.ne_of_lt hZb.lt
              have hZb := hZb.below (show Below _ _ ((w11.alloc (.cells #[.int .i64 0, .bool false, .bool false, .slice none 0 0, .slice none 0 0] 44))) from Rn.below_new (w11) (.cells #[.int .i64 0, .bool false, .bool false, .slice none 0 0, .slice none 0 0] 44))
              generalize (w11.alloc (.cells #[.int .i64 0, .bool false, .bool false, .slice none 0 0, .slice none 0 0] 44)) = w10 at *
              clear hPrev
              refine hK.out _ _ hHeld (fun hHeld => ?_)
              clear hK K
              refine anyZ_ready (rs := [19]) (by kernel_rfl) (by simp) ?_
              refine AllZ.cons rfl (fun K hK => ?_) AllZ.nil
              refine step_store_ent rfl 44 (.tmp 12) (.tmp 80) rfl rfl (w11.heap.size) yi rfl rfl hZa Hi.ent_size ?_
              have hBa := hZa.put yi
              have hZb2 : Bz (w9.heap.size) (World.setRow _ (w11.heap.size) (entA yi)) := ⟨(setRow_other _ _ _ _ (by first | exact hne | exact hne.symm)).trans hZb.is⟩
              have hHeld := hHeld.trans (setRow_below (cs := entA yi) (Below.refl _ _) hge_ba)
              clear hZa hZb
              generalize World.setRow _ (w11.heap.size) (entA yi) = w12 at *
              refine hK.out _ _ hHeld (fun hHeld => ?_)
              clear hK K
              refine anyZ_ready (rs := [20]) (by kernel_rfl) (by simp) ?_
              refine AllZ.last rfl rfl (fun K hK => ?_)
              refine step_store_ent rfl 44 (.tmp 13) (.tmp 89) rfl rfl (w9.heap.size) yj rfl rfl hZb2 Hi.ent_size ?_
              have hBb := hZb2.put yj
              have hBa2 : Bx (w11.heap.size) yi (World.setRow _ (w9.heap.size) (entA yj)) := ⟨⟨(setRow_other _ _ _ _ (by first | exact hne | exact hne.symm)).trans hBa.is.is⟩⟩
              have hH9 := hHeld.trans (setRow_below (cs := entA yj) (Below.refl _ _) hge_bb)
              have HT13 := Lib.hid (show T2 w w5 B2 L q m g d3 o (w11.heap.size) (w9.heap.size) yi yj _ from ⟨HT9.out.below hH9, hBa2.is, hBb.is, HRI.out.below hH9 (Nat.le_refl _), HRJ.out.below hH9 (Nat.le_refl _)⟩)
              clear hBa hBb hBa2 hZb2 hH9 hHeld hge_ba hge_bb hne
              generalize World.setRow _ (w9.heap.size) (entA yj) = w13 at HT13 ⊢
              refine hK.out _ _ ?_
              clear hK K
              generalize w11.heap.size = ba at HT13 ⊢
              generalize w9.heap.size = bb at HT13 ⊢
              refine anyZ_done (by kernel_rfl) ?_ _
              refine NoPanic.normal ?_
              obtain ⟨ei, A1, c1, B1, d1⟩ := yi
              obtain ⟨ej, A2, c2, B22, d22⟩ := yj
              have HFI := Lib.hid (show ei.rd.length ≤ 300 ∧ ei.wt.length ≤ 300 from by have := entF_few L i; rw [← HYI.out] at this; exact this)
              have HFJ := Lib.hid (show ej.rd.length ≤ 300 ∧ ej.wt.length ≤ 300 from by have := entF_few L j; rw [← HYJ.out] at this; exact this)
              obtain ⟨M, hM⟩ : ∃ M, M = ej.rd ++ ej.wt := ⟨_, rfl⟩
              have HM := Lib.hid hM
              have hMN : (M.length : Int) ≤ 600 := by rw [hM, List.length_append]; have := HFJ.out; omega
              have hN1 : (ei.rd.length : Int) ≤ 300 := by have := HFI.out; omega
              have hN2 : (ei.wt.length : Int) ≤ 300 := by have := HFI.out; omega
              have hN3 : (ej.wt.length : Int) ≤ 300 := by have := HFJ.out; omega
              clear hM
              have c4 := HT13.out.x1.c4
              go_wp2
              go_loopw [93] (ToRel w w5 B2 L q m g d3 o ba bb ⟨ei, A1, c1, B1, d1⟩ ⟨ej, A2, c2, B22, d22⟩ ei.wt M) (fun i _ => ei.wt.length - (intOf i).toNat)
              case atStart => exact ⟨0, Nat.zero_le _, rfl, HT13.out, fun p s hp => absurd hp (Nat.not_lt_zero _)⟩
              case round =>
                obtain ⟨p, hp, rfl, ht2, hap⟩ := hrel
                have HT := Lib.hid ht2
                have HAP := Lib.hid hap
                clear ht2 hap c4
                by_cases hlt : p < ei.wt.length
                · obtain ⟨ad, s, hA, hs, _, h4⟩ := HT.out.r1.wt.at_.at_ hlt
                  have hA : B1 = some ad := hA
                  subst hA
                  have HS := Lib.hid hs
                  have HPL := Lib.hid hlt
                  obtain ⟨s0, s1, s2, s3⟩ := h4
                  have hlt' : (p : Int) < (ei.wt.length : Int) := by omega
                  have h0 : (0 : Int) ≤ (p : Int) := by omega
                  have HBW := Lib.hid (Rn.below_new wr (.cells #[.int .i64 s.x, .int .i64 s.k, .int .i64 s.n, .bool s.wr] 48))
                  have HT3 := Lib.hid (show T3 w w5 B2 L q m g d3 o ba bb ⟨ei, A1, c1, some ad, d1⟩ ⟨ej, A2, c2, B22, d22⟩ wr.heap.size s.x (wr.alloc (.cells #[.int .i64 s.x, .int .i64 s.k, .int .i64 s.n, .bool s.wr] 48)) from
                    ⟨HT.out.below HBW.out, cell_of_row _ wr.heap.size 0 _ _ (0, 0) (heap_alloc_new _ _)⟩)
                  clear hs hlt HBW
                  go_wp2
                  generalize wr.alloc (.cells #[.int .i64 s.x, .int .i64 s.k, .int .i64 s.n, .bool s.wr] 48) = w14 at HT3 ⊢
                  generalize wr.heap.size = bx at HT3 ⊢
                  clear s0 s1 s2 s3
                  refine wp_region_noPanic ?_
                  refine region_z 8 (fun W => Below w14.heap.size w14 W) 8 1000 rfl (by kernel_rfl) (by exact (Below.refl _ _).drew) (fun hHeld => ?_)
                  refine take_d [1, 2, 5, 6] 0 97 (.pointer (some ⟨bb, 3, none⟩)) rfl rfl (by kernel_rfl) (by kernel_rfl) (by kernel_rfl) (by kernel_rfl) (fun _ _ _ h => h) (Or.inl ⟨by rfl, by intro W hW; clear hW; go_simp⟩) hHeld ?_
                  simp only [put_laws]
                  refine take_d [2, 5, 6] 1 98 (.slice A2 ej.rd.length c2) rfl rfl (by kernel_rfl) (by kernel_rfl) (by kernel_rfl) (by kernel_rfl) (fun _ _ _ h => h) (Or.inl ⟨by rfl, by intro W hW; have hc := (HT3.out.below hW).t2.x2.c3; clear hW; go_simp⟩) hHeld ?_
                  simp only [put_laws]
                  refine take_d [4, 5, 6] 3 100 (.pointer (some ⟨bb, 4, none⟩)) rfl rfl (by kernel_rfl) (by kernel_rfl) (by kernel_rfl) (by kernel_rfl) (fun _ _ _ h => h) (Or.inl ⟨by rfl, by intro W hW; clear hW; go_simp⟩) hHeld ?_
                  simp only [put_laws]
                  refine take_d [5, 6] 4 101 (.slice B22 ej.wt.length d22) rfl rfl (by kernel_rfl) (by kernel_rfl) (by kernel_rfl) (by kernel_rfl) (fun _ _ _ h => h) (Or.inl ⟨by rfl, by intro W hW; have hc := (HT3.out.below hW).t2.x2.c4; clear hW; go_simp⟩) hHeld ?_
                  simp only [put_laws]
                  refine take_d [] 7 104 (.int .i64 0) rfl rfl (by kernel_rfl) (by kernel_rfl) (by kernel_rfl) (by kernel_rfl) (fun _ _ _ h => h) (Or.inl ⟨by rfl, by intro W hW; clear hW; go_simp⟩) hHeld ?_
                  simp only [put_laws]
                  refine anyZ_ready (rs := [2]) (by kernel_rfl) (by simp) ?_
                  refine AllZ.cons rfl (fun K hK => ?_) AllZ.nil
                  go_simp
                  refine (Rp.sclone_any A2 c2 ej.rd _ (HT3.out.below hHeld).t2.r2.rd.at_ HFJ.out.1).mono ?_
                  rintro e w15 ⟨v15, rfl, ho15, hb⟩
                  try go_simp
                  have hPrev := hHeld
                  have hHeld := hHeld.trans (hb.mono hHeld.size)
                  have hle15 := hb.size
                  have hlo15 := hPrev.size
                  clear hPrev
                  refine hK.out _ _ hHeld (fun hHeld => ?_)
                  clear hK K
                  refine anyZ_ready (rs := [5]) (by kernel_rfl) (by simp) ?_
                  refine AllZ.cons rfl (fun K hK => ?_) AllZ.nil
                  refine Hi.step_append_vars lvt rfl (.tmp 99) (.tmp 101) rfl rfl ho15 _ _ ej.wt rfl rfl (HT3.out.below hHeld).t2.r2.wt.at_ (by have := HFJ.out; omega) hle15 ?_
                  intro v16 w16 ho16 hg16
                  have hHeld := hHeld.trans ((Hi.vars_grown ho15 hg16 hle15).mono hlo15)
                  rw [← HM.out] at ho16
                  obtain ⟨A16, c16, rfl, h16a, h16b, h16c⟩ := ho16.slice
                  clear hg16 ho15 ho16 hle15 hlo15
                  try go_simp
                  refine hK.out _ _ hHeld (fun hHeld => ?_)
                  clear hK K
                  refine take_d [] 6 103 (.int .i64 (M.length : Nat)) rfl rfl (by kernel_rfl) (by kernel_rfl) (by kernel_rfl) (by kernel_rfl) (fun _ _ _ h => h) (Or.inl ⟨by rfl, by intro W hW; clear hW; go_simp⟩) hHeld ?_
                  simp only [put_laws]
                  refine anyZ_done (by kernel_rfl) ?_ _
                  refine NoPanic.normal ?_
                  have HT16 := Lib.hid (HT3.out.below hHeld)
                  have HV16 := Lib.hid h16c
                  clear hHeld h16a h16b h16c
                  go_wp2
                  go_loopw [104] (TiRel2 w w5 B2 L q m g d3 o ba bb ⟨ei, A1, c1, some ad, d1⟩ ⟨ej, A2, c2, B22, d22⟩ bx s.x A16 M) (fun i _ => M.length - (intOf i).toNat)
                  case atStart => exact ⟨0, Nat.zero_le _, rfl, HT16.out, HV16.out, fun p t hp => absurd hp (Nat.not_lt_zero _)⟩
                  case round =>
                    obtain ⟨r, hr, rfl, ht3, hva, hin⟩ := hrel
                    have HT3 := Lib.hid ht3
                    have HVA := Lib.hid hva
                    have HIN := Lib.hid hin
                    clear ht3 hva hin
                    by_cases hlt2 : r < M.length
                    · obtain ⟨ad2, t, hA2, ht, _, h4⟩ := HVA.out.at_ hlt2
                      subst hA2
                      have HTT := Lib.hid ht
                      obtain ⟨t0, t1, t2, t3⟩ := h4
                      have HR := Lib.hid hlt2
                      have hlt2' : (r : Int) < (M.length : Int) := by omega
                      have hr0 : (0 : Int) ≤ (r : Int) := by omega
                      have HBW := Lib.hid (Rn.below_new wr (.cells #[.int .i64 t.x, .int .i64 t.k, .int .i64 t.n, .bool t.wr] 48))
                      have HT4 := Lib.hid (HT3.out.below HBW.out)
                      have cx := HT4.out.cx
                      clear ht hlt2
                      by_cases heq : s.x = t.x
                      · have b1 : (s.x == t.x) = true := beq_iff_eq.2 heq
                        clear heq
                        go_wp2
                        go_ret
                        exact ⟨rfl, HT4.out.t2.ts.bel⟩
                      · have b1 : (s.x == t.x) = false := beq_eq_false_iff_ne.2 heq
                        have HNE := Lib.hid heq
                        clear heq
                        go_wp2
                        go_roundw
                        case rel => exact ⟨r + 1, by have := HR.out; omega, by go_num, HT4.out, HVA.out.below HBW.out (Nat.le_refl _), HIN.out.more HTT.out HNE.out⟩
                        case measure => simp [intOf]; have := HR.out; omega
                    · have hlt2' : ¬ (r : Int) < (M.length : Int) := by omega
                      obtain rfl : r = M.length := by omega
                      go_wp2
                      exact ⟨⟨p + 1, by have := HPL.out; omega, by go_num, HT3.out.t2, HAP.out.more HS.out HIN.out⟩, by simp [intOf]; have := HPL.out; omega⟩
                · have hlt' : ¬ (p : Int) < (ei.wt.length : Int) := by omega
                  obtain rfl : p = ei.wt.length := by omega
                  have HAL1 := Lib.hid HAP.out.all
                  have c4 := HT.out.x2.c4
                  go_wp2
                  go_loopw [118] (ToRel w w5 B2 L q m g d3 o ba bb ⟨ei, A1, c1, B1, d1⟩ ⟨ej, A2, c2, B22, d22⟩ ej.wt ei.rd) (fun i _ => ej.wt.length - (intOf i).toNat)
                  case atStart => exact ⟨0, Nat.zero_le _, rfl, HT.out, fun p s hp => absurd hp (Nat.not_lt_zero _)⟩
                  case round =>
                    obtain ⟨p, hp, rfl, ht2, hap⟩ := hrel
                    have HT := Lib.hid ht2
                    have HAP := Lib.hid hap
                    clear ht2 hap
                    by_cases hlt : p < ej.wt.length
                    · obtain ⟨ad, s, hA, hs, _, h4⟩ := HT.out.r2.wt.at_.at_ hlt
                      have hA : B22 = some ad := hA
                      subst hA
                      have HS := Lib.hid hs
                      have HPL := Lib.hid hlt
                      obtain ⟨s0, s1, s2, s3⟩ := h4
                      have hlt' : (p : Int) < (ej.wt.length : Int) := by omega
                      have h0 : (0 : Int) ≤ (p : Int) := by omega
                      have HBW := Lib.hid (Rn.below_new wr (.cells #[.int .i64 s.x, .int .i64 s.k, .int .i64 s.n, .bool s.wr] 48))
                      have HT5 := Lib.hid (show T3 w w5 B2 L q m g d3 o ba bb ⟨ei, A1, c1, B1, d1⟩ ⟨ej, A2, c2, some ad, d22⟩ wr.heap.size s.x (wr.alloc (.cells #[.int .i64 s.x, .int .i64 s.k, .int .i64 s.n, .bool s.wr] 48)) from
                        ⟨HT.out.below HBW.out, cell_of_row _ wr.heap.size 0 _ _ (0, 0) (heap_alloc_new _ _)⟩)
                      have HVA0 := Lib.hid (show VarsAt (wr.alloc (.cells #[.int .i64 s.x, .int .i64 s.k, .int .i64 s.n, .bool s.wr] 48)) A1 ei.rd from HT5.out.t2.r1.rd.at_)
                      have c3 := HT5.out.t2.x1.c3
                      clear hs hlt c4
                      go_wp2
                      go_loopw [125] (TiRel2 w w5 B2 L q m g d3 o ba bb ⟨ei, A1, c1, B1, d1⟩ ⟨ej, A2, c2, some ad, d22⟩ wr.heap.size s.x A1 ei.rd) (fun i _ => ei.rd.length - (intOf i).toNat)
                      case atStart => exact ⟨0, Nat.zero_le _, rfl, HT5.out, HVA0.out, fun p t hp => absurd hp (Nat.not_lt_zero _)⟩
                      case round =>
                        obtain ⟨r, hr, rfl, ht3, hva, hin⟩ := hrel
                        have HT3 := Lib.hid ht3
                        have HVA := Lib.hid hva
                        have HIN := Lib.hid hin
                        clear ht3 hva hin
                        by_cases hlt2 : r < ei.rd.length
                        · obtain ⟨ad2, t, hA2, ht, _, h4⟩ := HVA.out.at_ hlt2
                          subst hA2
                          have HTT := Lib.hid ht
                          obtain ⟨t0, t1, t2, t3⟩ := h4
                          have HR := Lib.hid hlt2
                          have hlt2' : (r : Int) < (ei.rd.length : Int) := by omega
                          have hr0 : (0 : Int) ≤ (r : Int) := by omega
                          have HBW := Lib.hid (Rn.below_new wr (.cells #[.int .i64 t.x, .int .i64 t.k, .int .i64 t.n, .bool t.wr] 48))
                          have HT4 := Lib.hid (HT3.out.below HBW.out)
                          have cx := HT4.out.cx
                          clear ht hlt2
                          by_cases heq : s.x = t.x
                          · have b1 : (s.x == t.x) = true := beq_iff_eq.2 heq
                            clear heq
                            go_wp2
                            go_ret
                            exact ⟨rfl, HT4.out.t2.ts.bel⟩
                          · have b1 : (s.x == t.x) = false := beq_eq_false_iff_ne.2 heq
                            have HNE := Lib.hid heq
                            clear heq
                            go_wp2
                            go_roundw
                            case rel => exact ⟨r + 1, by have := HR.out; omega, by go_num, HT4.out, HVA.out.below HBW.out (Nat.le_refl _), HIN.out.more HTT.out HNE.out⟩
                            case measure => simp [intOf]; have := HR.out; omega
                        · have hlt2' : ¬ (r : Int) < (ei.rd.length : Int) := by omega
                          obtain rfl : r = ei.rd.length := by omega
                          go_wp2
                          exact ⟨⟨p + 1, by have := HPL.out; omega, by go_num, HT3.out.t2, HAP.out.more HS.out HIN.out⟩, by simp [intOf]; have := HPL.out; omega⟩
                    · have hlt' : ¬ (p : Int) < (ej.wt.length : Int) := by omega
                      obtain rfl : p = ej.wt.length := by omega
                      have HAL := Lib.hid HAP.out.all
                      have ck := HT.out.ts.cell HX.out
                      have ck1 := HT.out.ts.cell HY.out
                      have fk := HT.out.ts.free k
                      have fk1 := HT.out.ts.free k1
                      have hkk : k ≠ k1 := by have := HK1.out; omega
                      have ew : IntKind.i64.wrap ((k : Int) + 1) = (k1 : Int) := by rw [HE0.out]; exact W0
                      clear c4
                      go_wp2
                      go_region
                      have hp1 := HT.out.ts.ow.put HX.out 0 (by decide) (.int .i64 ((j : Int) + 1)) (v' := (j : Int) + 1) rfl
                      have hp2 := hp1.put (j := k1) (v := (j : Int) + 1) (by rw [List.getElem?_set_ne hkk]; exact HY.out) 0 (by decide) (.int .i64 ((i : Int) + 1)) (v' := (i : Int) + 1) rfl
                      simp only [Nat.mul_one, Nat.add_zero] at hp2
                      have hg5 := HT.out.ts.lt.1
                      have hbw : Below w5.heap.size wr ((wr.setCell ⟨g, k, none⟩ (.int .i64 ((j : Int) + 1))).setCell ⟨g, k1, none⟩ (.int .i64 ((i : Int) + 1))).drew := (((Below.refl w5.heap.size wr).setCell hg5 _).setCell hg5 _).drew
                      have hp3 := hp2.below (B := (((wr.setCell ⟨g, k, none⟩ (.int .i64 ((j : Int) + 1))).setCell ⟨g, k1, none⟩ (.int .i64 ((i : Int) + 1)))).heap.size) (Below.refl _ _).drew (Nat.le_refl _)
                      have HB17 := Lib.hid (HT.out.ts.sin.trans hbw)
                      have HO17 := Lib.hid hp3
                      generalize World.drew _ = w17 at HB17 HO17 ⊢
                      have HFW := Lib.hid (show Fit L ((o.set k ((j : Int) + 1)).set k1 ((i : Int) + 1)) from by
                        have hy := HY.out
                        rw [HK1.out] at hy ⊢
                        refine turn_fit HFT.out HX.out hy ?_ ?_
                        · rw [show ((i : Int) + 1 - 1).toNat = i by omega, show ((j : Int) + 1 - 1).toNat = j by omega]; exact HNG.out
                        · rw [show ((i : Int) + 1 - 1).toNat = i by omega, show ((j : Int) + 1 - 1).toNat = j by omega, ← HYI.out, ← HYJ.out]
                          have h1 := HAL1.out
                          have h2 := HAL.out
                          rw [HM.out] at h1
                          exact ⟨fun s hs t ht => h1 s hs t (List.mem_append_right _ ht), fun s hs t ht => h1 s hs t (List.mem_append_left _ ht), fun s hs t ht e => h2 t ht s hs e.symm, by
                            have := entF_pos L i
                            rw [← HYI.out] at this
                            exact this, by
                            have := entF_pos L j
                            rw [← HYJ.out] at this
                            exact this⟩)
                      have HAT := Lib.hid (show Rn.At Hi.encI w17 (some ⟨g, 0, none⟩) ((o.set k ((j : Int) + 1)).set k1 ((i : Int) + 1)) from by
                        obtain ⟨_, _, e, _, _, h3, _⟩ := HO17.out.slice
                        rw [(Value.slice.inj e).1]; exact h3)
                      have HEV := Lib.hid (HT.out.ts.fe.below HB17.out (Nat.le_refl _))
                      have HQ := Lib.hid (fits_any B2 (some ⟨g, 0, none⟩) d2 d3 L ((o.set k ((j : Int) + 1)).set k1 ((i : Int) + 1)) w17 HEV.out HOK.out HL.out HAT.out (by rw [List.length_set, List.length_set]; exact HGC.out.1) HGC.out.2 (by rw [List.length_set, List.length_set]; have := HLN.out; omega))
                      rw [List.length_set, List.length_set, fitB_yes HFW.out] at HQ
                      have HB18 := Lib.hid (HB5.out.trans (HB17.out.mono HB5.out.size))
                      clear hp1 hp2 hp3 hbw ck ck1 fk fk1
                      go_wp2_with fail
                      refine HQ.out.mono ?_
                      rintro r w18 ⟨rfl, hb18⟩
                      have HB19 := Lib.hid (HB18.out.trans (hb18.mono HB18.out.size))
                      clear hb18
                      go_wp2
                      go_ret
                      exact ⟨rfl, HB19.out⟩
  · have hgt : (L.length : Int) > 100 := by omega
    clear hl
    go_enter Try.func4, Try.ntmps4
    go_wp2_with fail
    refine (jalive_any _).mono ?_
    rintro r w1 ⟨rfl, hb1⟩
    have HB1 := Lib.hid hb1
    clear hb1
    go_wp2
    go_ret
    exact ⟨rfl, HB1.out⟩
end Go.Proofs.Ytaonepbongbhoaa.Jd
