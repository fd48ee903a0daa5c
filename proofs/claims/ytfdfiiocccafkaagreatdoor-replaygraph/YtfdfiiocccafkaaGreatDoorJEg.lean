/-
  The contract of gather.
  The contracts of end and Abort.
  The contract of behindAll.
-/
import Derived.Test.YtfdfiiocccafkaaGreatDoorJEb
namespace Go.Proofs.YtfdfiiocccafkaaGreatDoor.En
open Go.RowKit
attribute [local go_sem ↓] Go.wp_at_zero Go.wp_at_succ
theorem load_eng {ops : Array Oper} {rest : List Oper} {op : Oper} {a : Go.Act} {w : World} {Q : Exit → Go.Act → World → Prop} (hw : Region.wanted op (yielded ops a.tmps) = true) (ty : TypeId) (x : Operand) (ho : op.op = .load ty x)
    (b : Nat) (hx : a.eval x = .pointer (some ⟨b, 0, none⟩)) {p : Pl} {S M L : Value} {n : Int} (d : TypeDesc) (h : RawAt w b p S M L n) (hu : Tryz.prog.underlying ty = some d) (hd : d.isRow = true) (hi : (Tryz.prog.info? ty).map (·.size) = some 100)
    (hK : wpList Tryz.prog ops Q rest (a.put op.dst (.agg (poolA p))) w) : wpList Tryz.prog ops Q (op :: rest) a w :=
  wpList_step fun _ hK' => by rw [if_pos hw]; exact wp_load_mid ty x ho b 0 hx (poolA p).toList d h.range hu hd (by rw [Array.length_toList, poolA_size]; exact hi) (hK' _ _ (by simpa using hK))
theorem store_eng {ops : Array Oper} {rest : List Oper} {op : Oper} {a : Go.Act} {w : World} {Q : Exit → Go.Act → World → Prop} (hgd : op.guard = none) (ty : TypeId) (x y : Operand) (ho : op.op = .store ty x y) (hds : op.dst = none)
    (b : Nat) (q : Pl) {p : Pl} {S M L : Value} {n : Int} (hx : a.eval x = .pointer (some ⟨b, 0, none⟩)) (hy : a.eval y = .agg (poolA q)) (h : RawAt w b p S M L n) (hi : (Tryz.prog.info? ty).map (·.size) = some 100)
    (hK : wpList Tryz.prog ops Q rest a (w.setCells b 0 (poolA q).toList)) : wpList Tryz.prog ops Q (op :: rest) a w :=
  wpList_store_mid hgd ty x y ho b 0 (poolA q) hx hy (by rw [poolA_size]; exact h.there) (by rw [poolA_size]; exact hi) (poolA_one _) (by rw [hds]; exact hK)
theorem let_pool {ops : Array Oper} {rest : List Oper} {op : Oper} {a : Go.Act} {V : World} {Q : Exit → Go.Act → World → Prop} (hgd : op.guard = none) (t : Nat) (x y : Operand) (ho : op.op = .store t x y) (hds : op.dst = none)
    (W : World) (q : Pl) (hV : V = W.alloc (.cells (poolA zeroP) t)) (hx : a.eval x = .pointer (some ⟨W.heap.size, 0, none⟩)) (hy : a.eval y = .agg (poolA q)) (hi : (Tryz.prog.info? t).map (·.size) = some 100)
    (h : ∀ W', PoolAt W' W.heap.size q t → Below W.heap.size W W' → wpList Tryz.prog ops Q rest a W') : wpList Tryz.prog ops Q (op :: rest) a V := by
  subst hV
  refine store_pool hgd t x y ho hds W.heap.size zeroP q t hx hy (poolAt_new _ _ _) hi ?_
  rw [World.setRow_alloc_new]
  exact h _ (poolAt_new _ _ _) (Tx.below_new _ _)
/- what is left of the map -/
def fAt (T : Nat → Value) (g : Eng) (k : Nat) (y : Int) : Option Value := if y ∈ ((Po.went g.p).take k).map g.p.ids then none else seatF T g y
theorem went_tk {p : Pl} (hs : Po.Sound p) {i : Nat} (hi : i ∈ Po.went p) : Po.tk p i := .inr ((Po.went_done hs.done64).1 i hi).2
theorem went_not {p : Pl} (hs : Po.Sound p) {k i : Nat} (hi : (Po.went p)[k]? = some i) : p.ids i ∉ ((Po.went p).take k).map p.ids := by
  intro hm
  obtain ⟨j, hj, e⟩ := List.mem_map.1 hm
  obtain ⟨hl, rfl⟩ := List.getElem?_eq_some_iff.1 hi
  have := hs.uniq j _ (went_tk hs (List.mem_of_mem_take hj)) (went_tk hs (List.getElem_mem hl)) e
  obtain ⟨m, hm1, hm2⟩ := List.mem_iff_getElem.1 hj
  rw [List.getElem_take] at hm2
  have hmk : m < k := by simp at hm1; omega
  have hn := List.pairwise_iff_getElem.1 (Po.went_nodup hs.done64) m k (by omega) hl hmk
  exact hn (hm2.trans this)
theorem fAt_seat {g : Eng} (hs : Po.Sound g.p) {T : Nat → Value} {k i : Nat} (hi : (Po.went g.p)[k]? = some i) {A : Option Addr} {cc : Nat} (hT : T i = .slice A (g.t i).length cc) : fAt T g k (g.p.ids i) = some (.agg #[.slice A (g.t i).length cc, .int .i64 (i : Nat), .bool (g.c i)]) := by
  unfold fAt
  rw [if_neg (went_not hs hi)]
  unfold seatF
  rw [slotAt_of hs (went_tk hs (List.mem_of_getElem? hi))]
  show some (seatV T g i) = _
  unfold seatV
  rw [hT]
theorem fAt_step {g : Eng} {T : Nat → Value} {k i : Nat} (hi : (Po.went g.p)[k]? = some i) (y : Int) : (if y = g.p.ids i then none else fAt T g k y) = fAt T g (k + 1) y := by
  obtain ⟨hl, rfl⟩ := List.getElem?_eq_some_iff.1 hi
  unfold fAt
  rw [List.take_succ_eq_append_getElem hl, List.map_append, List.map_cons, List.map_nil]
  by_cases e : y = g.p.ids (Po.went g.p)[k]
  · rw [if_pos e, if_pos (by rw [e]; simp)]
  · rw [if_neg e]
    by_cases h : y ∈ ((Po.went g.p).take k).map g.p.ids
    · rw [if_pos h, if_pos (List.mem_append_left _ h)]
    · rw [if_neg h, if_neg (by rw [List.mem_append, List.mem_singleton]; rintro (x | x); exact h x; exact e x)]
theorem drops_step {S : List St.Vr} {l : List Nat} {k i : Nat} (hi : l[k]? = some i) : drops S (l.take (k + 1)) = St.dropL (drops S (l.take k)) (i : Nat) := by
  obtain ⟨hl, rfl⟩ := List.getElem?_eq_some_iff.1 hi
  rw [List.take_succ_eq_append_getElem hl]
  unfold drops
  rw [List.foldl_append]; rfl
theorem drops_len (l : List Nat) : ∀ S : List St.Vr, (drops S l).length = S.length := by
  induction l with
  | nil => intro S; rfl
  | cons i l ih => intro S; rw [drops_cons, ih]; simp [St.dropL]
theorem went_len {p : Pl} (hs : Po.Sound p) : (Po.went p).length ≤ 64 := by
  have h1 := Po.collect_len p hs.done64
  rw [Po.went_ids hs.done64, List.length_map] at h1
  exact Nat.le_trans h1 (Sm.items_len _)
theorem coll_ids {p : Pl} (h : p.done < 18446744073709551616) : ∀ i, i ∉ Po.went p → (Po.collect p).1.ids i = p.ids i :=
  Po.went_ind (fun p l r => ∀ i, i ∉ l → r.1.ids i = p.ids i) (fun _ _ _ _ => rfl) (fun p s l r _ _ ih i hi => by
    rw [List.mem_cons, not_or] at hi
    rw [ih i hi.2]
    show Od.upd p.ids s 0 i = p.ids i
    unfold Od.upd
    rw [if_neg hi.1]) p h
theorem coll_tk {p : Pl} (hs : Po.Sound p) (i : Nat) : Po.tk (Po.collect p).1 i ↔ Po.tk p i ∧ i ∉ Po.went p := by
  unfold Po.tk
  rw [(Po.collect_keeps p hs.done64).1, (Po.went_done hs.done64).2 i]
  constructor
  · rintro (h | h)
    · exact ⟨.inl h, fun hw => hs.apart i h ((Po.went_done hs.done64).1 i hw).2⟩
    · exact ⟨.inr h.1, h.2⟩
  · rintro ⟨h | h, hn⟩
    · exact .inl h
    · exact .inr ⟨h, hn⟩
theorem fAt_all {g : Eng} (hs : Po.Sound g.p) {T : Nat → Value} (y : Int) : fAt T g (Po.went g.p).length y = seatF T (gather g) y := by
  have hs' := Po.collect_sound hs
  unfold fAt
  rw [List.take_length]
  by_cases h : y ∈ (Po.went g.p).map g.p.ids
  · rw [if_pos h]
    obtain ⟨j, hj, rfl⟩ := List.mem_map.1 h
    unfold seatF
    cases e : slotAt (gather g) (g.p.ids j) with
    | none => rfl
    | some i =>
      obtain ⟨_, ht, hid⟩ := slotAt_some e
      have ht := (coll_tk hs i).1 ht
      have hid : (Po.collect g.p).1.ids i = g.p.ids j := hid
      rw [coll_ids hs.done64 i ht.2] at hid
      have := hs.uniq i j ht.1 (went_tk hs hj) hid
      exact absurd (this ▸ hj) ht.2
  · rw [if_neg h]
    unfold seatF
    cases e : slotAt g y with
    | none =>
      cases e2 : slotAt (gather g) y with
      | none => rfl
      | some i =>
        obtain ⟨h32, ht, hid⟩ := slotAt_some e2
        have ht := (coll_tk hs i).1 ht
        have hid : (Po.collect g.p).1.ids i = y := hid
        rw [coll_ids hs.done64 i ht.2] at hid
        exact absurd hid (slotAt_none e h32 ht.1)
    | some i =>
      obtain ⟨h32, ht, hid⟩ := slotAt_some e
      have hn : i ∉ Po.went g.p := fun hw => h (List.mem_map.2 ⟨i, hw, hid⟩)
      have hid2 : (gather g).p.ids i = y := by show (Po.collect g.p).1.ids i = y; rw [coll_ids hs.done64 i hn]; exact hid
      rw [← hid2, slotAt_of (g := gather g) hs' ((coll_tk hs i).2 ⟨ht, hn⟩)]
      rfl
theorem seat_run {w : World} {mb N : Nat} {f : Int → Option Value} {id : Int} (hid : St.i64p id) (h : ∃ sz, Tx.MapV w mb N sz zeroSeat f) {v : Value} (hf : f id = some v) : (Instr.lookup 94 (.map (some mb)) (.int .i64 id) false).run Tryz.prog w = .ok v w := by
  obtain ⟨sz, h⟩ := h
  have := MapV.lookF h Tryz.underlying94 (zero_seat w) hid
  rw [hf] at this
  exact this
theorem entry_eq {g : Eng} {i : Nat} (hs : Po.Sound g.p) (hi : Po.tk g.p i) : (⟨g.p.ids i, g.c i, !g.p.live.testBit i, Tx.readsL (g.t i), wrOf (g.c i) (g.t i)⟩ : Ent) = entry g i := by
  rw [done_not hs hi]; rfl
theorem flatE_one1 {F : Nat → Prop} {w : World} {x : Xe} (h : EntAt F w x) : ∀ u ∈ entC x, u.oneCell' = true := by
  have := flatE_one (F := F) (w := w) (X := [x]) (fun y hy => by simp at hy; subst hy; exact h)
  simpa [flatE] using this
structure RowE (lv : Value) (X : List Xe) (W : World) : Prop where
  is : W.ownsRow 0 79 5 lv X.length (flatE X)
theorem RowE.below {lv : Value} {X : List Xe} {W W' : World} (h : RowE lv X W) (hb : Below W.heap.size W W') : RowE lv X W' := ⟨row_other h.is (fun k e => hb.block k (h.is.lt k e).2)⟩
theorem field_slot (u x : Value) (i : Nat) (W : World) : (Instr.field 115 (.agg #[u, .int .i64 (i : Nat), x]) 1).run Tryz.prog W = .ok (.int .i64 (i : Nat)) W := by
  unfold Instr.field
  simp [run_underlying Tryz.underlying115, asAgg, part, Result.andThen]
/-- what a round of gather holds on to. -/
structure GSt (F : Nat → Prop) (w0 : World) (b mb N : Nat) (p : Pl) (S lv : Value) (n : Int) (f : Int → Option Value) (W : World) : Prop where
  raw : RawAt W b p S (.map (some mb)) lv n
  mp : ∃ sz, Tx.MapV W mb N sz zeroSeat f
  kp : Kp F w0 W
theorem GSt.below {F : Nat → Prop} {w0 : World} {b mb N : Nat} {p : Pl} {S lv : Value} {n : Int} {f : Int → Option Value} {W W' : World} (h : GSt F w0 b mb N p S lv n f W) (hb : Below W.heap.size W W') : GSt F w0 b mb N p S lv n f W' := by
  obtain ⟨sz, hm⟩ := h.mp
  exact ⟨h.raw.below hb, ⟨sz, hm.keep hb hm.lt⟩, h.kp.below hb⟩
theorem GSt.grown {w0 : World} {b mb N : Nat} {p : Pl} {S lv : Value} {n : Int} {f : Int → Option Value} {W W' : World} (h : GSt (Foot b mb lv) w0 b mb N p S lv n f W) (hg : W.grownBy W' lv.ownBlock) (hb : lv.ownBlock ≠ some b) (hm : lv.ownBlock ≠ some mb) : GSt (Foot b mb lv) w0 b mb N p S lv n f W' := by
  obtain ⟨sz, hm'⟩ := h.mp
  exact ⟨h.raw.other (hg.block b h.raw.lt (fun e => hb e.symm)), ⟨sz, MapV.other hm' (hg.block mb hm'.lt (fun e => hm e.symm))⟩, h.kp.grown hg (fun k e => .inl (.inr (.inr e)))⟩
/-- nothing that was there has changed since w0. -/
structure Since (w0 W : World) : Prop where
  bel : Below w0.heap.size w0 W
theorem Since.below {w0 W W' : World} (h : Since w0 W) (hb : Below W.heap.size W W') : Since w0 W' := ⟨h.bel.trans (hb.mono h.bel.size)⟩
def GaRel (F : Nat → Prop) (w1 : World) (b N mb : Nat) (g : Eng) (T : Nat → Value) (i : Value) (wr : World) : Prop :=
  ∃ (k : Nat) (sA : Option Addr) (sc : Nat) (lv : Value) (X : List Xe), k ≤ (Po.went g.p).length ∧ i = .int .i64 k ∧ EngW wr b N g.p (drops g.s ((Po.went g.p).take k)) (fAt T g k) (g.log ++ ((Po.went g.p).take k).map (entry g)) g.n sA sc mb lv X ∧ Mv F w1 (Foot b mb lv) wr
set_option maxHeartbeats 4000000 in
set_option maxRecDepth 100000 in
theorem gather_any {F : Nat → Prop} {w : World} {b N : Nat} {g : Eng} (h : EngAt F w b N g) (hs : Po.Sound g.p) (hc : g.p.count ≤ 1000000) (ht : ∀ i, Po.tk g.p i → (g.t i).length ≤ 200) (hsl : g.s.length ≤ 64) (hlog : g.log.length ≤ 100000) :
    Calls Tryz.prog 88 #[.pointer (some ⟨b, 0, none⟩)] w fun e w' => e = .returned (.tuple #[]) ∧ EngTo F w b N (gather g) w' := by
  obtain ⟨sA, sc, mb, lv, T, X, h⟩ := h
  have hz := (zero_of_info zero_pool_info).1
  have H := Lib.hid h
  have HS := Lib.hid hs
  have HT := Lib.hid ht
  have HSN0 := Lib.hid hsl
  have HLN := Lib.hid hlog
  have HC := Lib.hid hc
  clear h hs ht hsl hlog hc
  go_enter Tryz.func88, Tryz.ntmps88
  go_wp2_with (refine load_eng rfl 87 (.tmp 9) rfl b rfl _ H.out.raw Tryz.underlying87 rfl pool_info ?_)
  refine (collect_any g.p _ (HS.out.ok (by have := HC.out; omega))).mono ?_
  rintro e w1 ⟨v, rfl, ho, hb⟩
  have H1 := Lib.hid (H.out.below hb)
  have HB1 := Lib.hid hb
  rw [Po.went_ids HS.out.done64] at ho
  have HO := Lib.hid ho
  obtain ⟨A0, c0, rfl, hc1, hc2⟩ := ho.shape
  rw [List.length_map] at hc1
  have hwl := went_len HS.out
  clear hb ho
  go_wp2_with (refine let_pool rfl 87 (.tmp 2) (.tmp 12) rfl rfl w1 (Po.collect g.p).1 rfl rfl rfl pool_info ?_; intro w2 hp2 hb2; have HP2 := Lib.hid hp2; have HB2 := Lib.hid hb2; clear hp2 hb2)
  have H2 := Lib.hid (H1.out.below HB2.out)
  have HO2 := Lib.hid (HO.out.below HB2.out (Nat.le_refl _))
  have HLB := Lib.hid (show Below w.heap.size w w2 from HB1.out.trans (HB2.out.mono HB1.out.size))
  have HNF := Lib.hid (show ¬ F w1.heap.size from fun hf => by have := H.out.lt _ hf; have := HB1.out.size; omega)
  clear H1 HO HB2
  go_loopw [16] (GaRel F w2 b N mb g T) (fun i _ => 64 - (intOf i).toNat)
  case atStart =>
    refine ⟨0, sA, sc, lv, X, Nat.zero_le _, rfl, ?_, ?_⟩
    · have hw := H2.out.toW
      have e : fAt T g 0 = seatF T g := funext fun y => by unfold fAt; simp
      rw [e]
      simpa [drops] using hw
    · rw [H.out.F_eq]; exact Mv.refl _ _
  case round =>
    obtain ⟨k, sA, sc, lv, X, hk, rfl, hw, hmv⟩ := hrel
    have HW := Lib.hid hw
    have HMV := Lib.hid hmv
    clear hw hmv
    by_cases hlt : k < (Po.went g.p).length
    · have hi0 := List.getElem?_eq_getElem hlt
      generalize (Po.went g.p)[k] = i at hi0
      have HIK := Lib.hid hi0
      have HI := Lib.hid (went_tk HS.out (List.mem_of_getElem? hi0))
      have h32 := HS.out.tk32 HI.out
      obtain ⟨A, cc, hT, hsl⟩ := (show TAt F w2 g T from H2.out.ts) i HI.out
      have HF := Lib.hid (fAt_seat HS.out hi0 hT)
      have HSL00 := Lib.hid hsl
      have HSL0 := Lib.hid (hsl.move HMV.out)
      have HTL := Lib.hid (HT.out i HI.out)
      have HID := Lib.hid (show St.i64p (g.p.ids i) by have h1 := HS.out.ids i h32; have h2 := HC.out; exact ⟨by omega, by omega⟩)
      have HSN := Lib.hid (show (drops g.s ((Po.went g.p).take k)).length ≤ 100 by rw [drops_len]; have := HSN0.out; omega)
      have HXL := Lib.hid (show X.length ≤ 100100 by
        have h1 := congrArg List.length HW.out.xs
        have h2 := HLN.out
        simp at h1
        omega)
      have hrow : OwnI wr (w.heap.size + 2) (.slice A0 ((Po.went g.p).map g.p.ids).length c0) ((Po.went g.p).map g.p.ids) := row_other HO2.out (fun q e => HMV.out.1.block q ((World.ownsRow.lt HO2.out q e).2) (fun hf => by
        have h1 := (World.ownsRow.lt HO2.out q e).1
        have h2 := H.out.lt q hf
        omega))
      obtain ⟨gq, rfl, hcell⟩ := hrow.at_ (k := k) (by rw [List.length_map]; exact hlt)
      rw [List.getElem_map] at hcell
      rw [show (Po.went g.p)[k] = i from Option.some.inj ((List.getElem?_eq_getElem hlt).symm.trans HIK.out)] at hcell
      have hlt' : (k : Int) < ((Po.went g.p).length : Int) := by omega
      have HG := Lib.hid (show GSt (Foot b mb lv) wr b mb N g.p (.slice sA (drops g.s ((Po.went g.p).take k)).length sc) lv g.n (fAt T g k) wr from ⟨HW.out.raw, HW.out.mp, Kp.refl _ _⟩)
      have HSL := HSL0
      clear hi0 hT hsl hrow
      go_wp2
      clear hcell hlt'
      have hO := RowE.below (RowE.mk HW.out.lg) (below_drew wr)
      have hBl := Since.mk (below_drew wr)
      refine wp_region_noPanic ?_
      refine region_z 13 (GSt (Foot b mb lv) wr b mb N g.p (.slice sA (drops g.s ((Po.went g.p).take k)).length sc) lv g.n (fAt T g k)) 10 1000 rfl (by kernel_rfl) (HG.out.below (below_drew _)) (fun hHeld => ?_)
      refine take_z 0 20 (.pointer (some ⟨b, 0, none⟩)) rfl rfl (by kernel_rfl) (by kernel_rfl) (by kernel_rfl) (by kernel_rfl) (fun _ _ _ h => h) (Or.inl ⟨by rfl, by intro W hW; clear hW; go_simp⟩) hHeld ?_
      simp only [put_laws]
      refine take_z 1 21 (.pointer (some ⟨b, 0, none⟩)) rfl rfl (by kernel_rfl) (by kernel_rfl) (by kernel_rfl) (by kernel_rfl) (fun _ _ _ h => h) (Or.inl ⟨by rfl, by intro W hW; clear hW; go_simp⟩) hHeld ?_
      simp only [put_laws]
      refine take_z 2 22 (.pointer (some ⟨b, 0, none⟩)) rfl rfl (by kernel_rfl) (by kernel_rfl) (by kernel_rfl) (by kernel_rfl) (fun _ _ _ h => h) (Or.inl ⟨by rfl, by intro W hW; clear hW; go_simp⟩) hHeld ?_
      simp only [put_laws]
      refine take_z 3 23 (.pointer (some ⟨b, 102, none⟩)) rfl rfl (by kernel_rfl) (by kernel_rfl) (by kernel_rfl) (by kernel_rfl) (fun _ _ _ h => h) (Or.inl ⟨by rfl, by intro W hW; clear hW; go_simp⟩) hHeld ?_
      simp only [put_laws]
      refine take_z 4 24 (lv) rfl rfl (by kernel_rfl) (by kernel_rfl) (by kernel_rfl) (by kernel_rfl) (fun _ _ _ h => h) (Or.inl ⟨by rfl, by intro W hW; have hc := hW.raw.log_; clear hW; go_simp⟩) hHeld ?_
      simp only [put_laws]
      refine take_z 5 25 (.pointer (some ⟨b, 0, none⟩)) rfl rfl (by kernel_rfl) (by kernel_rfl) (by kernel_rfl) (by kernel_rfl) (fun _ _ _ h => h) (Or.inl ⟨by rfl, by intro W hW; clear hW; go_simp⟩) hHeld ?_
      simp only [put_laws]
      refine take_z 6 26 (.int .i64 (g.p.ids i)) rfl rfl (by kernel_rfl) (by kernel_rfl) (by kernel_rfl) (by kernel_rfl) (fun _ _ _ h => h) (Or.inl ⟨by rfl, by intro W hW; clear hW; go_simp⟩) hHeld ?_
      simp only [put_laws]
      refine anyZ_ready (rs := [7]) (by kernel_rfl) (by simp) ?_
      refine AllZ.cons rfl (fun K hK => ?_) AllZ.nil
      go_simp
      refine (entry_raw hHeld.raw hHeld.mp HID.out HF.out (HSL.out.kp hHeld.kp).sl HTL.out HS.out.live64 (by omega)).mono ?_
      rintro e we ⟨A1, c1, B1, d1, rfl, hr1, hf1, hw1, hf2, hb⟩
      try go_simp
      have hPrev := hHeld
      have hHeld := hHeld.below hb
      have hr1 := SlF.fresh (F := Foot b mb lv) hr1 hf1 (fun q hq => Nat.lt_of_lt_of_le (HW.out.lt q hq) hPrev.kp.size)
      have hw1 := SlF.fresh (F := Foot b mb lv) hw1 hf2 (fun q hq => Nat.lt_of_lt_of_le (HW.out.lt q hq) hPrev.kp.size)
      clear hf1 hf2
      have hO := hO.below hb
      have hBl := hBl.below hb
      clear hPrev
      refine hK.out _ _ hHeld (fun hHeld => ?_)
      clear hK K
      refine anyZ_ready (rs := [8]) (by kernel_rfl) (by simp) ?_
      refine AllZ.cons rfl (fun K hK => ?_) AllZ.nil
      go_simp
      have hN : Tx.Blk (we.alloc (.cells #[.int .i64 (g.p.ids i), .bool (g.c i), .bool (!g.p.live.testBit i), .slice A1 (Tx.readsL (g.t i)).length c1, .slice B1 (wrOf (g.c i) (g.t i)).length d1] 79)) we.heap.size #[.int .i64 (g.p.ids i), .bool (g.c i), .bool (!g.p.live.testBit i), .slice A1 (Tx.readsL (g.t i)).length c1, .slice B1 (wrOf (g.c i) (g.t i)).length d1] 79 := Tx.Blk.new we #[.int .i64 (g.p.ids i), .bool (g.c i), .bool (!g.p.live.testBit i), .slice A1 (Tx.readsL (g.t i)).length c1, .slice B1 (wrOf (g.c i) (g.t i)).length d1] 79
      have hHeld := hHeld.below (Tx.below_new we (.cells #[.int .i64 (g.p.ids i), .bool (g.c i), .bool (!g.p.live.testBit i), .slice A1 (Tx.readsL (g.t i)).length c1, .slice B1 (wrOf (g.c i) (g.t i)).length d1] 79))
      have hO := hO.below (Tx.below_new we (.cells #[.int .i64 (g.p.ids i), .bool (g.c i), .bool (!g.p.live.testBit i), .slice A1 (Tx.readsL (g.t i)).length c1, .slice B1 (wrOf (g.c i) (g.t i)).length d1] 79))
      have hBl := hBl.below (Tx.below_new we (.cells #[.int .i64 (g.p.ids i), .bool (g.c i), .bool (!g.p.live.testBit i), .slice A1 (Tx.readsL (g.t i)).length c1, .slice B1 (wrOf (g.c i) (g.t i)).length d1] 79))
      have hr1 := hr1.below (Tx.below_new we (.cells #[.int .i64 (g.p.ids i), .bool (g.c i), .bool (!g.p.live.testBit i), .slice A1 (Tx.readsL (g.t i)).length c1, .slice B1 (wrOf (g.c i) (g.t i)).length d1] 79))
      have hw1 := hw1.below (Tx.below_new we (.cells #[.int .i64 (g.p.ids i), .bool (g.c i), .bool (!g.p.live.testBit i), .slice A1 (Tx.readsL (g.t i)).length c1, .slice B1 (wrOf (g.c i) (g.t i)).length d1] 79))
      obtain ⟨x, hxd⟩ : ∃ x : Xe, x = (⟨g.p.ids i, g.c i, !g.p.live.testBit i, Tx.readsL (g.t i), wrOf (g.c i) (g.t i)⟩, .slice A1 (Tx.readsL (g.t i)).length c1, .slice B1 (wrOf (g.c i) (g.t i)).length d1) := ⟨_, rfl⟩
      have hX : EntAt (Foot b mb lv) (we.alloc (.cells #[.int .i64 (g.p.ids i), .bool (g.c i), .bool (!g.p.live.testBit i), .slice A1 (Tx.readsL (g.t i)).length c1, .slice B1 (wrOf (g.c i) (g.t i)).length d1] 79)) x := by subst hxd; exact ⟨⟨A1, c1, rfl, hr1⟩, ⟨B1, d1, rfl, hw1⟩⟩
      have hN : Tx.Blk (we.alloc (.cells #[.int .i64 (g.p.ids i), .bool (g.c i), .bool (!g.p.live.testBit i), .slice A1 (Tx.readsL (g.t i)).length c1, .slice B1 (wrOf (g.c i) (g.t i)).length d1] 79)) we.heap.size (entC x).toArray 79 := by subst hxd; exact hN
      have hx1 : x.1 = entry g i := by subst hxd; exact entry_eq HS.out HI.out
      generalize (we.alloc (.cells #[.int .i64 (g.p.ids i), .bool (g.c i), .bool (!g.p.live.testBit i), .slice A1 (Tx.readsL (g.t i)).length c1, .slice B1 (wrOf (g.c i) (g.t i)).length d1] 79)) = wb at *
      clear hxd hr1 hw1
      refine hK.out _ _ hHeld (fun hHeld => ?_)
      clear hK K
      refine anyZ_ready (rs := [9]) (by kernel_rfl) (by simp) ?_
      refine AllZ.cons rfl (fun K hK => ?_) AllZ.nil
      obtain ⟨i0, hi0, hz0, hz1, hz2⟩ := info_parts ent_info
      refine step_append_lies _ rfl (.tmp 24) (.tmp 28) 37 rfl 0 79 i0 _ 5 64 Tryz.underlying37 hi0 hz0 hz1 hz2 rfl (by decide) lv X.length (flatE X) rfl hO.is ⟨we.heap.size, 0, none⟩ 1 1 (entC x) rfl rfl (World.news_of_block (w := wb) hN) (flatE_one1 hX) (by decide) (by have := HXL.out; unfold maxLen; omega) (by have := HXL.out; omega) (Nat.zero_le _) _ rfl ?_
      intro q cap wg hog hgg hq hqlt
      have hHeld0 := hHeld
      have hHeld := hHeld.grown hgg (fun e => HW.out.bl e) (fun e => HW.out.ml e)
      have hOG := hog
      have hGG := hgg
      refine hK.out _ _ hHeld (fun hHeld => ?_)
      clear hK K
      refine anyZ_ready (rs := [10]) (by kernel_rfl) (by simp) ?_
      refine AllZ.last rfl rfl (fun K hK => ?_)
      go_simp
      refine hK.out _ _ ?_
      clear hK K
      refine anyZ_ready (rs := [11]) (by kernel_rfl) (by simp) ?_
      refine AllZ.last rfl rfl (fun K hK => ?_)
      go_simp
      refine hK.out _ _ ?_
      clear hK K
      refine anyZ_ready (rs := [12]) (by kernel_rfl) (by simp) ?_
      refine AllZ.last rfl rfl (fun K hK => ?_)
      have b102 := hHeld.raw.log_
      have bf := hHeld.raw.free
      go_simp
      clear b102 bf
      refine hK.out _ _ ?_
      clear hK K
      refine anyZ_done (by kernel_rfl) ?_ _
      refine NoPanic.normal ?_
      obtain ⟨hwl, hml⟩ := EngW.put_log (HW.out.below hBl.bel) hGG hOG hq hX
      have HW2 := Lib.hid (show EngW _ b N g.p (drops g.s ((Po.went g.p).take k)) (fAt T g k) (g.log ++ ((Po.went g.p).take (k + 1)).map (entry g)) g.n sA sc mb _ (X ++ [x]) from by
        rw [St.take_step HIK.out, List.map_append, ← List.append_assoc, List.map_cons, List.map_nil, ← hx1]
        exact hwl)
      have HM2 := Lib.hid (HMV.out.trans ((show Mv (Foot b mb lv) wr (Foot b mb lv) wb from ⟨hHeld0.kp, fun _ _ h => h⟩).trans hml))
      clear hwl hml hOG hGG hog hgg hq hqlt hX hN hHeld hHeld0 hO hBl HG HW HXL
      generalize wg.setCell ⟨b, 102, none⟩ (.slice (some ⟨q, 0, none⟩) (X.length + 1) cap) = wl at *
      generalize Value.slice (some ⟨q, 0, none⟩) (X.length + 1) cap = lv2 at *
      have HSL2 := Lib.hid (show SlF (Foot b mb lv2) wl A cc (g.t i) from HSL00.out.move HM2.out)
      have HG2 := Lib.hid (show GSt (Foot b mb lv2) wl b mb N g.p (.slice sA (drops g.s ((Po.went g.p).take k)).length sc) lv2 g.n (fAt T g k) wl from ⟨HW2.out.raw, HW2.out.mp, Kp.refl _ _⟩)
      go_wp2
      have hBl := Since.mk (below_drew wl)
      refine wp_region_noPanic ?_
      refine region_z 16 (GSt (Foot b mb lv2) wl b mb N g.p (.slice sA (drops g.s ((Po.went g.p).take k)).length sc) lv2 g.n (fAt T g k)) 13 1000 rfl (by kernel_rfl) (HG2.out.below (below_drew _)) (fun hHeld => ?_)
      refine take_z 0 32 (.pointer (some ⟨b, 0, none⟩)) rfl rfl (by kernel_rfl) (by kernel_rfl) (by kernel_rfl) (by kernel_rfl) (fun _ _ _ h => h) (Or.inl ⟨by rfl, by intro W hW; clear hW; go_simp⟩) hHeld ?_
      simp only [put_laws]
      refine take_z 1 33 (.pointer (some ⟨b, 0, none⟩)) rfl rfl (by kernel_rfl) (by kernel_rfl) (by kernel_rfl) (by kernel_rfl) (fun _ _ _ h => h) (Or.inl ⟨by rfl, by intro W hW; clear hW; go_simp⟩) hHeld ?_
      simp only [put_laws]
      refine take_z 2 34 (.pointer (some ⟨b, 0, none⟩)) rfl rfl (by kernel_rfl) (by kernel_rfl) (by kernel_rfl) (by kernel_rfl) (fun _ _ _ h => h) (Or.inl ⟨by rfl, by intro W hW; clear hW; go_simp⟩) hHeld ?_
      simp only [put_laws]
      refine take_z 3 35 (.pointer (some ⟨b, 100, none⟩)) rfl rfl (by kernel_rfl) (by kernel_rfl) (by kernel_rfl) (by kernel_rfl) (fun _ _ _ h => h) (Or.inl ⟨by rfl, by intro W hW; clear hW; go_simp⟩) hHeld ?_
      simp only [put_laws]
      refine take_z 4 36 (.slice sA (drops g.s ((Po.went g.p).take k)).length sc) rfl rfl (by kernel_rfl) (by kernel_rfl) (by kernel_rfl) (by kernel_rfl) (fun _ _ _ h => h) (Or.inl ⟨by rfl, by intro W hW; have hc := hW.raw.store_; clear hW; go_simp⟩) hHeld ?_
      simp only [put_laws]
      refine take_z 5 37 (.pointer (some ⟨b, 0, none⟩)) rfl rfl (by kernel_rfl) (by kernel_rfl) (by kernel_rfl) (by kernel_rfl) (fun _ _ _ h => h) (Or.inl ⟨by rfl, by intro W hW; clear hW; go_simp⟩) hHeld ?_
      simp only [put_laws]
      refine take_z 6 38 (.pointer (some ⟨b, 0, none⟩)) rfl rfl (by kernel_rfl) (by kernel_rfl) (by kernel_rfl) (by kernel_rfl) (fun _ _ _ h => h) (Or.inl ⟨by rfl, by intro W hW; clear hW; go_simp⟩) hHeld ?_
      simp only [put_laws]
      refine take_z 7 39 (.pointer (some ⟨b, 101, none⟩)) rfl rfl (by kernel_rfl) (by kernel_rfl) (by kernel_rfl) (by kernel_rfl) (fun _ _ _ h => h) (Or.inl ⟨by rfl, by intro W hW; clear hW; go_simp⟩) hHeld ?_
      simp only [put_laws]
      refine take_z 8 40 (.map (some mb)) rfl rfl (by kernel_rfl) (by kernel_rfl) (by kernel_rfl) (by kernel_rfl) (fun _ _ _ h => h) (Or.inl ⟨by rfl, by intro W hW; have hc := hW.raw.map_; clear hW; go_simp⟩) hHeld ?_
      simp only [put_laws]
      refine take_z 9 41 (.int .i64 (g.p.ids i)) rfl rfl (by kernel_rfl) (by kernel_rfl) (by kernel_rfl) (by kernel_rfl) (fun _ _ _ h => h) (Or.inl ⟨by rfl, by intro W hW; clear hW; go_simp⟩) hHeld ?_
      simp only [put_laws]
      refine take_z 10 42 (.agg #[.slice A (g.t i).length cc, .int .i64 (i : Nat), .bool (g.c i)]) rfl rfl (by kernel_rfl) (by kernel_rfl) (by kernel_rfl) (by kernel_rfl) (fun _ _ _ h => h) (Or.inl ⟨by rfl, by intro W hW; have hc := seat_run HID.out hW.mp HF.out; clear hW; go_simp⟩) hHeld ?_
      simp only [put_laws]
      refine take_z 11 43 (.int .i64 (i : Nat)) rfl rfl (by kernel_rfl) (by kernel_rfl) (by kernel_rfl) (by kernel_rfl) (fun _ _ _ h => h) (Or.inl ⟨by rfl, by intro W hW; have hc := field_slot (.slice A (g.t i).length cc) (.bool (g.c i)) i W; clear hW; go_simp⟩) hHeld ?_
      simp only [put_laws]
      refine anyZ_ready (rs := [12]) (by kernel_rfl) (by simp) ?_
      refine AllZ.cons rfl (fun K hK => ?_) AllZ.nil
      go_simp
      refine (Sx.drop_any sA sc (drops g.s ((Po.went g.p).take k)) (i : Nat) _ ((HW2.out.st.kp hHeld.kp).at_) HSN.out (by omega) (by omega)).mono ?_
      rintro e wd ⟨v, rfl, ho, hb⟩
      try go_simp
      have hPrev := hHeld
      have hHeld := hHeld.below hb
      obtain ⟨A2, c2, rfl, hv, hf⟩ := ho.slf
      clear ho
      have hV := VrF.fresh (F := Foot b mb lv2) hv hf (fun q hq => Nat.lt_of_lt_of_le (HW2.out.lt q hq) hPrev.kp.size)
      clear hv hf
      have hBl := hBl.below hb
      clear hPrev
      refine hK.out _ _ hHeld (fun hHeld => ?_)
      clear hK K
      refine anyZ_ready (rs := [13]) (by kernel_rfl) (by simp) ?_
      refine AllZ.last rfl rfl (fun K hK => ?_)
      go_simp
      refine hK.out _ _ ?_
      clear hK K
      refine anyZ_ready (rs := [14]) (by kernel_rfl) (by simp) ?_
      refine AllZ.last rfl rfl (fun K hK => ?_)
      go_simp
      refine hK.out _ _ ?_
      clear hK K
      refine anyZ_ready (rs := [15]) (by kernel_rfl) (by simp) ?_
      refine AllZ.last rfl rfl (fun K hK => ?_)
      have b100 := hHeld.raw.store_
      have bf := hHeld.raw.free
      go_simp
      clear b100 bf
      refine hK.out _ _ ?_
      clear hK K
      refine anyZ_done (by kernel_rfl) ?_ _
      refine NoPanic.normal ?_
      have HW3 := Lib.hid (EngW.put_store (c := c2) (HW2.out.below hBl.bel) hV)
      have HM3 := Lib.hid (show Mv (Foot b mb lv2) wl (Foot b mb lv2) _ from ⟨hHeld.kp.trans ((HW2.out.below hBl.bel).kp_store (.slice A2 (St.dropL (drops g.s ((Po.went g.p).take k)) (i : Nat)).length c2)), fun _ _ h => h⟩)
      clear hV hHeld HG2 hBl
      generalize wd.setCell ⟨b, 100, none⟩ (.slice A2 (St.dropL (drops g.s ((Po.went g.p).take k)) (i : Nat)).length c2) = w3 at *
      have m101 := HW3.out.raw.map_
      go_wp2_with (at_delete; refine wpList_del rfl _ _ 94 115 rfl Tryz.underlying94 mb N zeroSeat (fAt T g k) rfl HW3.out.mp (g.p.ids i) rfl HID.out ?_; intro w4 hm4 hg4; have HM4 := Lib.hid hm4; have HG4 := Lib.hid hg4; clear hm4 hg4)
      have HW4 := HW3.out.put_map (by obtain ⟨sz, h⟩ := HM4.out; exact ⟨sz, h.congr (fAt_step HIK.out)⟩) HG4.out
      rw [← drops_step HIK.out] at HW4
      refine ⟨⟨k + 1, _, _, _, _, by omega, by go_num, HW4, HM2.out.trans (HM3.out.trans ⟨kp_map HG4.out, fun _ _ h => h⟩)⟩, by simp [intOf]; omega⟩
    · obtain rfl : k = (Po.went g.p).length := by omega
      have HP3 := Lib.hid (show PoolAt wr w1.heap.size (Po.collect g.p).1 87 from (HMV.out.1.block _ HP2.out.lt HNF.out).trans HP2.out)
      have hlt' : ¬ ((Po.went g.p).length : Int) < ((Po.went g.p).length : Int) := by omega
      have HWP := Lib.hid (HW.out.put_pool (Po.collect g.p).1)
      go_wp2_with (first
        | (refine load_pool rfl 87 (.tmp 2) rfl w1.heap.size (Po.collect g.p).1 87 rfl _ HP3.out Tryz.underlying87 rfl pool_info ?_)
        | (refine store_eng rfl 87 (.tmp 56) (.tmp 54) rfl rfl b (Po.collect g.p).1 rfl rfl HW.out.raw pool_info ?_))
      go_end0
      refine ⟨rfl, Foot b mb lv, ⟨sA, sc, mb, lv, T, X, ?_⟩, ?_⟩
      · have hw := HWP.out
        rw [List.take_length, show fAt T g (Po.went g.p).length = seatF T (gather g) from funext fun y => fAt_all HS.out y] at hw
        refine EngW.is (g := gather g) hw fun i hi => ?_
        have hi := ((coll_tk HS.out i).1 hi).1
        exact ((show TAt F w2 g T from H2.out.ts).move (HMV.out.trans ⟨kp_pool _ _, fun _ _ h => h⟩)) i hi
      · exact (Mv.of_below HLB.out).trans (HMV.out.trans ⟨kp_pool _ _, fun _ _ h => h⟩)
end Go.Proofs.YtfdfiiocccafkaaGreatDoor.En
namespace Go.Proofs.YtfdfiiocccafkaaGreatDoor.En
open Go.RowKit
attribute [local go_sem ↓] Go.wp_at_zero Go.wp_at_succ
theorem yields_eng {ops : Array Oper} {S : World → Prop} {op : Oper} {a : Go.Act} (hw : Region.wanted op (yielded ops a.tmps) = true) (ty : TypeId) (x : Operand) (ho : op.op = .load ty x)
    (b : Nat) (hx : a.eval x = .pointer (some ⟨b, 0, none⟩)) (p : Pl) (d : TypeDesc) (hS : ∀ w, S w → w.rangeAt b 0 (poolA p).toList)
    (hu : Tryz.prog.underlying ty = some d) (hd : d.isRow = true) (hi : (Tryz.prog.info? ty).map (·.size) = some 100) : YieldsIf Tryz.prog ops S op (.agg (poolA p)) a := by
  have := yieldsIf_load_mid (P := Tryz.prog) hw ty x ho b 0 hx (poolA p).toList d hS hu hd (by rw [Array.length_toList, poolA_size]; exact hi)
  simpa using this
theorem step_store_eng {w : World} {ops : Array Oper} {op : Oper} {a : Go.Act} {K : Go.Act → World → Prop} {Q : Exit → Go.Act → World → Prop} {E : Prop} (hgd : op.guard = none) (ty : TypeId) (x y : Operand) (ho : op.op = .store ty x y) (hds : op.dst = none)
    (b : Nat) (q : Pl) {p : Pl} {S M L : Value} {n : Int} (hx : a.eval x = .pointer (some ⟨b, 0, none⟩)) (hy : a.eval y = .agg (poolA q)) (h : RawAt w b p S M L n) (hi : (Tryz.prog.info? ty).map (·.size) = some 100)
    (hK : K a (w.setCells b 0 (poolA q).toList)) : if Region.wanted op (yielded ops a.tmps) = true then Oper.wp Tryz.prog op a w K Q else E := by
  have hw : Region.wanted op (yielded ops a.tmps) = true := by simp [Region.wanted, hgd]
  rw [if_pos hw]
  refine wp_store_mid ty x y ho b 0 (poolA q) hx hy (by rw [poolA_size]; exact h.there) (by rw [poolA_size]; exact hi) (poolA_one _) ?_
  rw [hds]; exact hK
/-- over, as the pool has it. -/
def endS (g : Eng) (i : Nat) : Eng := ⟨Po.ended g.p (i : Nat), g.s, g.t, g.c, g.log, g.n⟩
theorem closed_end {g : Eng} {i : Nat} (hc : g.c i = false) : gather (endS g i) = closed g i false := by
  have e : ud g.c i false = g.c := funext fun j => by
    by_cases h : j = i
    · rw [h, ud_same, hc]
    · rw [ud_other h]
  unfold closed shut
  rw [e]; rfl
theorem seatF_end {g : Eng} (hs : Po.Sound g.p) {i : Nat} (hi : g.p.live.testBit i = true) (T : Nat → Value) (y : Int) : seatF T (endS g i) y = seatF T g y := by
  have e : tkB (endS g i) = tkB g := shut_tkB hs hi false
  unfold seatF slotAt
  rw [e]; rfl
set_option maxHeartbeats 4000000 in
set_option maxRecDepth 100000 in
theorem end_any {F : Nat → Prop} {w : World} {b N : Nat} {g : Eng} (h : EngAt F w b N g) (hs : Po.Sound g.p) (hc : g.p.count ≤ 1000000) (ht : ∀ i, Po.tk g.p i → (g.t i).length ≤ 200) (hsl : g.s.length ≤ 64) (hlog : g.log.length ≤ 100000) {i : Nat} (hi : g.p.live.testBit i = true) :
    Calls Tryz.prog 46 #[.pointer (some ⟨b, 0, none⟩), .int .i64 (g.p.ids i)] w fun e w' => e = .returned (.tuple #[]) ∧ EngTo F w b N (gather (endS g i)) w' := by
  obtain ⟨sA, sc, mb, lv, T, X, h⟩ := h
  have h32 := hs.tk32 (.inl hi)
  obtain rfl := h.F_eq
  have H := Lib.hid h
  have HW := Lib.hid h.toW
  have HS := Lib.hid hs
  have HLV := Lib.hid hi
  have HREST := Lib.hid (And.intro hc (And.intro ht (And.intro hsl hlog)))
  have HOK := Lib.hid (hs.ok (by omega))
  have HL := Lib.hid (has_live hs hi)
  have HID := Lib.hid (show St.i64p (g.p.ids i) by have h1 := hs.ids i h32; exact ⟨by omega, by omega⟩)
  obtain ⟨A, cc, hT, hsl'⟩ := h.ts i (.inl hi)
  have HF := Lib.hid (show seatF T g (g.p.ids i) = some (.agg #[.slice A (g.t i).length cc, .int .i64 (i : Nat), .bool (g.c i)]) by
    unfold seatF
    rw [slotAt_of hs (.inl hi)]
    show some (seatV T g i) = _
    unfold seatV
    rw [hT])
  have HG := Lib.hid (show GSt (Foot b mb lv) w b mb N g.p (.slice sA g.s.length sc) lv g.n (seatF T g) w from ⟨h.raw, h.mp, Kp.refl _ _⟩)
  have hBl := Since.mk (below_drew w)
  clear h hs hi hc ht hsl hlog hT hsl'
  go_enter Tryz.func46, Tryz.ntmps46
  go_wp2
  refine wp_region_noPanic ?_
  refine region_z 19 (GSt (Foot b mb lv) w b mb N g.p (.slice sA g.s.length sc) lv g.n (seatF T g)) 15 15 rfl (by kernel_rfl) (HG.out.below (below_drew _)) (fun hHeld => ?_)
  refine take_z 0 5 (.pointer (some ⟨b, 0, none⟩)) rfl rfl (by kernel_rfl) (by kernel_rfl) (by kernel_rfl) (by kernel_rfl) (fun _ _ _ h => h) (Or.inl ⟨by rfl, by intro W hW; clear hW; go_simp⟩) hHeld ?_
  simp only [put_laws]
  refine take_z 1 6 (.pointer (some ⟨b, 0, none⟩)) rfl rfl (by kernel_rfl) (by kernel_rfl) (by kernel_rfl) (by kernel_rfl) (fun _ _ _ h => h) (Or.inl ⟨by rfl, by intro W hW; clear hW; go_simp⟩) hHeld ?_
  simp only [put_laws]
  refine take_z 2 7 (.pointer (some ⟨b, 0, none⟩)) rfl rfl (by kernel_rfl) (by kernel_rfl) (by kernel_rfl) (by kernel_rfl) (fun _ _ _ h => h) (Or.inl ⟨by rfl, by intro W hW; clear hW; go_simp⟩) hHeld ?_
  simp only [put_laws]
  refine take_z 3 8 (.pointer (some ⟨b, 0, none⟩)) rfl rfl (by kernel_rfl) (by kernel_rfl) (by kernel_rfl) (by kernel_rfl) (fun _ _ _ h => h) (Or.inl ⟨by rfl, by intro W hW; clear hW; go_simp⟩) hHeld ?_
  simp only [put_laws]
  refine take_z 4 9 (.agg (poolA g.p)) rfl rfl (by kernel_rfl) (by kernel_rfl) (by kernel_rfl) (by kernel_rfl) (fun _ _ _ h => h) (yields_eng (by rfl) 87 (.tmp 8) rfl b rfl g.p _ (fun W h => h.raw.range) Tryz.underlying87 rfl pool_info) hHeld ?_
  simp only [put_laws]
  refine take_z 5 10 (.pointer (some ⟨b, 0, none⟩)) rfl rfl (by kernel_rfl) (by kernel_rfl) (by kernel_rfl) (by kernel_rfl) (fun _ _ _ h => h) (Or.inl ⟨by rfl, by intro W hW; clear hW; go_simp⟩) hHeld ?_
  simp only [put_laws]
  refine take_z 6 11 (.pointer (some ⟨b, 0, none⟩)) rfl rfl (by kernel_rfl) (by kernel_rfl) (by kernel_rfl) (by kernel_rfl) (fun _ _ _ h => h) (Or.inl ⟨by rfl, by intro W hW; clear hW; go_simp⟩) hHeld ?_
  simp only [put_laws]
  refine take_z 7 12 (.pointer (some ⟨b, 101, none⟩)) rfl rfl (by kernel_rfl) (by kernel_rfl) (by kernel_rfl) (by kernel_rfl) (fun _ _ _ h => h) (Or.inl ⟨by rfl, by intro W hW; clear hW; go_simp⟩) hHeld ?_
  simp only [put_laws]
  refine take_z 8 13 (.map (some mb)) rfl rfl (by kernel_rfl) (by kernel_rfl) (by kernel_rfl) (by kernel_rfl) (fun _ _ _ h => h) (Or.inl ⟨by rfl, by intro W hW; have hc := hW.raw.map_; clear hW; go_simp⟩) hHeld ?_
  simp only [put_laws]
  refine take_z 9 14 (.int .i64 (g.p.ids i)) rfl rfl (by kernel_rfl) (by kernel_rfl) (by kernel_rfl) (by kernel_rfl) (fun _ _ _ h => h) (Or.inl ⟨by rfl, by intro W hW; clear hW; go_simp⟩) hHeld ?_
  simp only [put_laws]
  refine take_z 10 15 (.agg #[.slice A (g.t i).length cc, .int .i64 (i : Nat), .bool (g.c i)]) rfl rfl (by kernel_rfl) (by kernel_rfl) (by kernel_rfl) (by kernel_rfl) (fun _ _ _ h => h) (Or.inl ⟨by rfl, by intro W hW; have hc := seat_run HID.out hW.mp HF.out; clear hW; go_simp⟩) hHeld ?_
  simp only [put_laws]
  refine take_z 11 16 (.int .i64 (i : Nat)) rfl rfl (by kernel_rfl) (by kernel_rfl) (by kernel_rfl) (by kernel_rfl) (fun _ _ _ h => h) (Or.inl ⟨by rfl, by intro W hW; have hc := field_slot (.slice A (g.t i).length cc) (.bool (g.c i)) i W; clear hW; go_simp⟩) hHeld ?_
  simp only [put_laws]
  refine anyZ_ready (rs := [12]) (by kernel_rfl) (by simp) ?_
  refine AllZ.cons rfl (fun K hK => ?_) AllZ.nil
  go_simp
  refine (end_yes g.p (i : Nat) _ HOK.out (by omega) (by omega) HL.out).mono ?_
  rintro e we ⟨rfl, hb⟩
  try go_simp
  have hPrev := hHeld
  have hHeld := hHeld.below hb
  have hBl := hBl.below hb
  clear hPrev
  refine hK.out _ _ hHeld (fun hHeld => ?_)
  clear hK K
  refine take_z 13 4 (.tuple #[.agg (poolA (Po.ended g.p (i : Nat))), .int .i64 0]) rfl rfl (by kernel_rfl) (by kernel_rfl) (by kernel_rfl) (by kernel_rfl) (fun _ _ _ h => h) (Or.inl ⟨by rfl, by intro W hW; clear hW; go_simp⟩) hHeld ?_
  simp only [put_laws]
  refine take_z 14 18 (.agg (poolA (Po.ended g.p (i : Nat)))) rfl rfl (by kernel_rfl) (by kernel_rfl) (by kernel_rfl) (by kernel_rfl) (fun _ _ _ h => h) (Or.inl ⟨by rfl, by intro W hW; clear hW; go_simp⟩) hHeld ?_
  simp only [put_laws]
  refine take_e 19 (.int .i64 0) rfl rfl (by kernel_rfl) (by kernel_rfl) (by kernel_rfl) (fun _ _ _ h => h) (Or.inl ⟨by rfl, by intro W hW; clear hW; go_simp⟩) ?_
  simp only [put_laws]
  refine anyZ_ready (rs := [16]) (by kernel_rfl) (by simp) ?_
  refine AllZ.last rfl rfl (fun K hK => ?_)
  go_simp
  refine hK.out _ _ ?_
  clear hK K
  refine anyZ_ready (rs := [17]) (by kernel_rfl) (by simp) ?_
  refine AllZ.last rfl rfl (fun K hK => ?_)
  go_simp
  refine hK.out _ _ ?_
  clear hK K
  refine anyZ_ready (rs := [18]) (by kernel_rfl) (by simp) ?_
  refine AllZ.last rfl rfl (fun K hK => ?_)
  refine step_store_eng rfl 87 (.tmp 21) (.tmp 18) rfl rfl b (Po.ended g.p (i : Nat)) rfl rfl hHeld.raw pool_info ?_
  refine hK.out _ _ ?_
  clear hK K
  refine anyZ_done (by kernel_rfl) ?_ _
  refine NoPanic.normal ?_
  have hw := (HW.out.below hBl.bel).put_pool (Po.ended g.p (i : Nat))
  have hmv : Mv (Foot b mb lv) w (Foot b mb lv) (we.setCells b 0 (poolA (Po.ended g.p (i : Nat))).toList) := (Mv.of_below hBl.bel).trans ⟨kp_pool _ _, fun _ _ h => h⟩
  rw [show seatF T g = seatF T (endS g i) from funext fun y => (seatF_end HS.out HLV.out T y).symm] at hw
  have HE := Lib.hid (show EngTo (Foot b mb lv) w b N (endS g i) (we.setCells b 0 (poolA (Po.ended g.p (i : Nat))).toList) from ⟨_, ⟨sA, sc, mb, lv, T, X, EngW.is (g := endS g i) hw (fun j hj => by
    have hj := (Po.ended_tk HS.out HL.out j).1 hj
    exact (H.out.ts.move hmv) j hj)⟩, hmv.1, hmv.2⟩)
  clear hw hmv hHeld hBl
  generalize we.setCells b 0 (poolA (Po.ended g.p (i : Nat))).toList = w2 at *
  obtain ⟨F2, hE2, hk2, hf2⟩ := HE.out
  have HE2 := Lib.hid hE2
  have HM2 := Lib.hid (show Mv (Foot b mb lv) w F2 w2 from ⟨hk2, hf2⟩)
  clear hE2 hk2 hf2
  go_wp2_with fail
  refine (gather_any HE2.out (Po.ended_sound HS.out HL.out) HREST.out.1 (fun j hj => HREST.out.2.1 j ((Po.ended_tk HS.out HL.out j).1 hj)) HREST.out.2.2.1 HREST.out.2.2.2).mono ?_
  rintro e w3 ⟨rfl, h3⟩
  have H3 := Lib.hid h3
  clear h3
  go_wp2
  go_end0
  refine ⟨rfl, ?_⟩
  obtain ⟨F3, e3, k3, f3⟩ := H3.out
  exact ⟨F3, e3, HM2.out.trans ⟨k3, f3⟩⟩
/-- what the calls ask of an engine. -/
structure Fit (g : Eng) : Prop where
  ps : Po.Sound g.p
  cnt : g.p.count ≤ 1000000
  tl : ∀ i, Po.tk g.p i → (g.t i).length ≤ 200
  len : g.s.length ≤ 64
  log : g.log.length ≤ 100000
theorem Inv.fit {K : Int} {g : Eng} (h : Inv K g) (hK : K ≤ 100000) : Fit g :=
  ⟨h.ps, by have := h.cnt; omega, h.tl, h.len, by have := h.log; have := h.cnt; omega⟩
theorem abort_none {g : Eng} {id : Int} (h : liveAt g id = none) : abort g id = (g, whoE g id) := by unfold abort; rw [h]
theorem abort_some {g : Eng} {id : Int} {i : Nat} (h : liveAt g id = some i) : abort g id = (closed g i false, 0) := by unfold abort; rw [h]
set_option maxHeartbeats 2000000 in
set_option maxRecDepth 100000 in
theorem abort_any {F : Nat → Prop} {w : World} {b N : Nat} {g : Eng} (h : EngAt F w b N g) (hf : Fit g) (hl : ∀ i, g.p.live.testBit i = true → g.c i = false) {id : Int} (hid : St.i64p id) :
    Calls Tryz.prog 16 #[.pointer (some ⟨b, 0, none⟩), .int .i64 id] w fun e w' => e = .returned (.int .i64 (abort g id).2) ∧ EngTo F w b N (abort g id).1 w' := by
  have HE := Lib.hid h
  obtain ⟨sA, sc, mb, lv, T, X, h⟩ := h
  have H := Lib.hid h
  have HF := Lib.hid hf
  have HLV := Lib.hid hl
  clear h hf hl
  cases hL : liveAt g id with
  | none =>
    rw [abort_none hL]
    have HL := Lib.hid hL
    have HN := Lib.hid (whoE_ne g id)
    have hN : ((whoE g id) == 0) = false := by simpa using HN.out
    clear hL
    go_enter Tryz.func16, Tryz.ntmps16
    go_wp2_with (go_at_call 45; refine (who_err H.out HF.out.ps hid HL.out).mono ?_; rintro e w1 ⟨rfl, hb⟩)
    have HB := Lib.hid hb
    clear hb
    go_wp2
    go_ret
    exact ⟨rfl, EngTo.keep HE.out (HB.out.alloc HB.out.size _)⟩
  | some i =>
    rw [abort_some hL]
    have HL := Lib.hid hL
    have HI := Lib.hid (liveAt_some hL)
    obtain ⟨A, cc, hT, _⟩ := H.out.ts i (.inl HI.out.2.1)
    have HT := Lib.hid hT
    clear hL hT
    go_enter Tryz.func16, Tryz.ntmps16
    go_wp2_with fail
    refine (who_live H.out HF.out.ps hid HL.out HT.out).mono ?_
    rintro e w1 ⟨rfl, hb⟩
    have HB := Lib.hid hb
    have HB1 := Lib.hid (HB.out.alloc HB.out.size (.cells #[.slice A (g.t i).length cc, .int .i64 (i : Nat), .bool (g.c i)] 115))
    clear hb
    go_wp2_with fail
    have hend := end_any (HE.out.below HB1.out) HF.out.ps HF.out.cnt HF.out.tl HF.out.len HF.out.log HI.out.2.1
    rw [HI.out.2.2, closed_end (HLV.out i HI.out.2.1)] at hend
    refine hend.mono ?_
    rintro e w2 ⟨rfl, h2⟩
    have H2 := Lib.hid h2
    clear h2 hend
    go_wp2
    go_ret
    exact ⟨rfl, EngTo.pre HB1.out H2.out⟩
end Go.Proofs.YtfdfiiocccafkaaGreatDoor.En
namespace Go.Proofs.YtfdfiiocccafkaaGreatDoor.En
open Go.RowKit
attribute [local go_sem ↓] Go.wp_at_zero Go.wp_at_succ
theorem behind_val {p : Pl} {s : Nat} {A : Option Addr} {c : Nat} {l : List Int} {o : Option Pl} (h : behind p s l = o) (w : World) (hp : Po.Sound p) (hc : p.count ≤ 1000000) (hs : s < 32) (hi : IntsAt w A l.length l) (hl : l.length ≤ 100000) (hT : TabAt w) :
    Calls Tryz.prog 66 #[.agg (poolA p), .int .i64 (s : Nat), .slice A l.length c] w (BehindPost o w) := by
  subst h; exact behind_any p s A c l w hp hc hs hi hl hT
theorem sget_val {A : Option Addr} {c : Nat} {L : List St.Vr} {x : Int} {v : St.Vr} {w : World} (h : Sx.VarsAt w A L) (hx : St.has L x) (hv : St.at_ L x = v) :
    Calls Tryz.prog 63 #[.slice A L.length c, .int .i64 x] w fun e w' => e = .returned (.tuple #[.agg #[.int .i64 v.k, .int .i64 v.n, .int .i64 v.ver, .int .i64 v.wr, .int .u64 (v.m : Nat)], .int .i64 0]) ∧ Below w.heap.size w w' := by
  have := sget_yes (c := c) h hx
  rw [hv] at this; exact this
/-- a row of numbers of the call's own. -/
def OwnZ (w : World) (base : Nat) (v : Value) (l : List Int) : Prop := w.ownsRow base 3 1 v l.length (l.map (Value.int .i64))
theorem run_append_ints (ty : TypeId) {W : World} {base : Nat} {v : Value} {L : List Int} (hown : OwnZ W base v L) {A : Option Addr} (c : Nat) {M : List Int} (hM : IntsAt W A M.length M) (hlen : L.length + M.length ≤ 1000) (hbase : base ≤ W.heap.size) :
    ∃ v' w', (Builtin.append_ #[107, 107] ty #[v, .slice A M.length c]).run Tryz.prog W = .ok v' w' ∧ OwnZ w' base v' (L ++ M) ∧ W.grownBy w' v.ownBlock := by
  obtain ⟨i, hi, hz, hs, hb⟩ := info_parts int_info
  rcases A with _ | ad
  · have hm : M = [] := by
      rcases M with _ | ⟨x, M⟩
      · rfl
      · obtain ⟨ad, h, _⟩ := hM.2.1 (by simp)
        cases h
    subst hm
    have hr : (Builtin.append_ #[107, 107] ty #[v, .slice none 0 c]).run Tryz.prog W = .ok v W := by
      rcases hown.2 with ⟨rfl, h0⟩ | ⟨g, cap, cur, rfl, _, _, hnc, _⟩
      · simp [Builtin.append_, run_underlying Tryz.underlying107, sizeOf, typeInfo, hi, Builtin.lenOf, Builtin.firstCells]
      · simp [Builtin.append_, run_underlying Tryz.underlying107, sizeOf, typeInfo, hi, Builtin.lenOf, Builtin.firstCells, hnc, storeCells]
    exact ⟨v, W, hr, by simpa using hown, ⟨rfl, rfl, rfl, Nat.le_refl _, fun _ _ _ => rfl⟩⟩
  · have hc : ∀ j u, (M.map (Value.int .i64))[j]? = some u → W.cell? (ad.add j) = some u := by
      intro j u hu
      rw [List.getElem?_map] at hu
      cases hz : M[j]? with
      | none => rw [hz] at hu; cases hu
      | some z =>
        rw [hz] at hu
        have hu := Option.some.inj hu
        subst hu
        have hlt := (List.getElem?_eq_some_iff.1 hz).1
        obtain ⟨ad', h, hc⟩ := hM.2.1 (by omega)
        have h := Option.some.inj h
        subst h
        exact hc j z hz
    obtain ⟨v', w', hr, h2, h3, _⟩ := run_append_own (P := Tryz.prog) W base 107 ty 3 i (.int .i64 0) 1 8 Tryz.underlying107 hi hz hs hb rfl (by decide) v L.length (L.map (Value.int .i64)) hown ad M.length c (M.map (Value.int .i64)) (by simp) hc (fun u hu => by obtain ⟨z, _, rfl⟩ := List.mem_map.1 hu; rfl) (by unfold maxLen; omega) (by omega) hbase
    refine ⟨v', w', hr, ?_, h3⟩
    unfold OwnZ
    rw [List.length_append, List.map_append]
    exact h2
theorem OwnZ.slice {w : World} {base : Nat} {v : Value} {l : List Int} (h : OwnZ w base v l) (hl : ∀ z ∈ l, i64s z) : ∃ A c, v = .slice A l.length c ∧ IntsAt w A l.length l := by
  rcases h.2 with ⟨rfl, h0⟩ | ⟨g, cap, cur, rfl, _, hg, _⟩
  · exact ⟨none, 0, by rw [h0], rfl, fun hn => by omega, hl⟩
  · refine ⟨_, cap, rfl, rfl, fun _ => ⟨_, rfl, fun j z hz => ?_⟩, hl⟩
    exact World.ownsRow.cells h (g := g) rfl j _ (by rw [List.getElem?_map, hz]; rfl)
theorem vals_ints (l : List Nat) : Go.Proofs.YtfdfiiocccafkaaGreatDoor.vals l = (l.map fun (k : Nat) => (k : Int)).map (Value.int .i64) := by simp [Go.Proofs.YtfdfiiocccafkaaGreatDoor.vals]
theorem let_pool' {ops : Array Oper} {rest : List Oper} {op : Oper} {a : Go.Act} {V : World} {Q : Exit → Go.Act → World → Prop} (hgd : op.guard = none) (t : Nat) (x y : Operand) (ho : op.op = .store t x y) (hds : op.dst = none)
    (W : World) (B : Nat) (q : Pl) (hB : W.heap.size = B) (hV : V = W.alloc (.cells (poolA zeroP) t)) (hx : a.eval x = .pointer (some ⟨B, 0, none⟩)) (hy : a.eval y = .agg (poolA q)) (hi : (Tryz.prog.info? t).map (·.size) = some 100)
    (h : ∀ W', PoolAt W' B q t → Below B W W' → wpList Tryz.prog ops Q rest a W') : wpList Tryz.prog ops Q (op :: rest) a V := by
  subst hB
  exact let_pool hgd t x y ho hds W q hV hx hy hi h
theorem step_append_ints {ops : Array Oper} {o : Oper} {a : Go.Act} {K : Go.Act → World → Prop} {Q : Exit → Go.Act → World → Prop} {E : Prop} (hgd : o.guard = none) (s x : Operand)
    (ho : o.op = .call { callee := .builtin .append, args := #[s, x], argTypes := #[107, 107] }) {W : World} {base : Nat} {v : Value} {L : List Int} (hs : a.eval s = v) (hown : OwnZ W base v L)
    (A : Option Addr) (c : Nat) (M : List Int) {m : Nat} (hm : M.length = m) (hx : a.eval x = .slice A m c) (hM : IntsAt W A M.length M) (hlen : L.length + M.length ≤ 1000) (hbase : base ≤ W.heap.size)
    (h : ∀ v' w', OwnZ w' base v' (L ++ M) → Below base W w' → W.heap.size ≤ w'.heap.size → K (a.put o.dst v') w') : if Region.wanted o (yielded ops a.tmps) = true then Oper.wp Tryz.prog o a W K Q else E := by
  subst hm
  have hw : Region.wanted o (yielded ops a.tmps) = true := by simp [Region.wanted, hgd]
  rw [if_pos hw]
  obtain ⟨v', w', hr, h2, h3⟩ := run_append_ints o.type hown c hM hlen hbase
  unfold Oper.wp execOp
  simp only [ho, resolve, invoke, builtin, Sem.run_bind, Sem.run_pure, Result.andThen_ok, List.map_toArray, List.map_cons, List.map_nil, hs, hx, hr]
  exact h v' w' h2 ((Below.refl _ _).grown h3 hbase (fun k hk => (World.ownsRow.lt hown k hk).1)) h3.size
theorem step_store_box {w : World} {ops : Array Oper} {op : Oper} {a : Go.Act} {K : Go.Act → World → Prop} {Q : Exit → Go.Act → World → Prop} {E : Prop} (hgd : op.guard = none) (ty : TypeId) (x y : Operand) (ho : op.op = .store ty x y) (hds : op.dst = none)
    (g : Nat) (p q : Pl) (t : Nat) (hx : a.eval x = .pointer (some ⟨g, 0, none⟩)) (hy : a.eval y = .agg (poolA q)) (h : PoolAt w g p t) (hi : (Tryz.prog.info? ty).map (·.size) = some 100)
    (hK : K a (w.setRow g (poolA q))) : if Region.wanted op (yielded ops a.tmps) = true then Oper.wp Tryz.prog op a w K Q else E := by
  have hw : Region.wanted op (yielded ops a.tmps) = true := by simp [Region.wanted, hgd]
  rw [if_pos hw]
  refine wp_store_row ty x y ho g (poolA q) hx hy t _ h (by rw [poolA_size]; exact hi) (by rw [poolA_size, poolA_size]) (poolA_one _) ?_
  rw [hds]; exact hK
structure BSt (w : World) (q : Pl) (W : World) : Prop where
  re : PoolAt W w.heap.size zeroP 87
  po : PoolAt W (w.heap.size + 1) q 87
  bel : Below w.heap.size w W
theorem BSt.below {w W W' : World} {q : Pl} (h : BSt w q W) (hb : Below W.heap.size W W') : BSt w q W' := ⟨h.re.below hb, h.po.below hb, h.bel.trans (hb.mono h.bel.size)⟩
theorem BSt.lt {w W : World} {q : Pl} (h : BSt w q W) : w.heap.size + 1 < W.heap.size := h.po.lt
/-- a call that writes behind the boxes alone. -/
theorem BSt.behind_ {w W W' : World} {q : Pl} {B : Nat} (h : BSt w q W) (hb : Below B W W') (hB : w.heap.size + 2 ≤ B) : BSt w q W' := ⟨(hb.block _ (by omega)).trans h.re, (hb.block _ (by omega)).trans h.po, h.bel.trans (hb.mono (by omega))⟩
theorem BSt.box {w W : World} {q r : Pl} (h : BSt w q W) : BSt w r (W.setRow (w.heap.size + 1) (poolA r)) := ⟨h.re.setRow _ (by omega), poolAt_put h.po, setRow_below h.bel (by omega)⟩
theorem BSt.tell {w W : World} {q : Pl} (h : BSt w q W) (r : Pl) : PoolAt (W.setRow w.heap.size (poolA r)) w.heap.size r 87 ∧ Below w.heap.size w (W.setRow w.heap.size (poolA r)) := ⟨poolAt_put h.re, setRow_below h.bel (Nat.le_refl _)⟩
theorem ahead_drop {S : List St.Vr} {s k : Nat} {ws : List Tx.Sp} {x : Tx.Sp} (h : ws[k]? = some x) (q : Pl) : behind q s (aheadAll S s (ws.drop k)) = (behind q s (aheadOf (St.at_ S x.x) s)).bind fun r => behind r s (aheadAll S s (ws.drop (k + 1))) := by
  obtain ⟨hl, rfl⟩ := List.getElem?_eq_some_iff.1 h
  rw [List.drop_eq_getElem_cons hl]
  show behind q s (aheadOf (St.at_ S ws[k].x) s ++ aheadAll S s (ws.drop (k + 1))) = _
  rw [behind_append]
def BaRel (w : World) (p : Pl) (S : List St.Vr) (s : Nat) (ws : List Tx.Sp) (v i : Value) (wr : World) : Prop :=
  ∃ (k : Nat) (q : Pl), k ≤ ws.length ∧ v = .bool true ∧ i = .int .i64 k ∧ behind q s (aheadAll S s (ws.drop k)) = behind p s (aheadAll S s ws) ∧ Po.Sound q ∧ q.count = p.count ∧ BSt w q wr
/-- boxes, and a block of the call's own. -/
structure LSt (w : World) (q : Pl) (x : Nat) (cs : Array Value) (t : TypeId) (W : World) : Prop where
  st : BSt w q W
  bx : Tx.Blk W x cs t
theorem LSt.below {w : World} {q : Pl} {x : Nat} {cs : Array Value} {t : TypeId} {W W' : World} (h : LSt w q x cs t W) (hb : Below W.heap.size W W') : LSt w q x cs t W' := ⟨h.st.below hb, h.bx.below hb⟩
theorem LSt.behind_ {w : World} {q : Pl} {x : Nat} {cs : Array Value} {t : TypeId} {W W' : World} {B : Nat} (h : LSt w q x cs t W) (hb : Below B W W') (hB : w.heap.size + 2 ≤ B) (hx : x < B) : LSt w q x cs t W' := ⟨h.st.behind_ hb hB, (hb.block _ hx).trans h.bx⟩
structure IntR (W : World) (A : Option Addr) (l : List Int) : Prop where
  at_ : IntsAt W A l.length l
theorem IntR.below {W W' : World} {A : Option Addr} {l : List Int} (h : IntR W A l) (hb : Below W.heap.size W W') : IntR W' A l := ⟨IntsAt.below h.at_ hb⟩
/-- where a row begins. -/
structure At (n : Nat) (y z : Nat) : Prop where
  one : y + 2 ≤ n
  two : z < n
theorem BSt.put {w W : World} {q : Pl} (h : BSt w q W) {y : Nat} (hy : w.heap.size + 1 < y) (a b c d e : Value) : BSt w q (put5 W y a b c d e) := by
  have hb : Below (w.heap.size + 2) W (put5 W y a b c d e) := below_put5 (Below.refl _ _) (by omega) _ _ _ _ _
  exact h.behind_ hb (Nat.le_refl _)
set_option maxHeartbeats 4000000 in
set_option maxRecDepth 100000 in
theorem behindAll_any {F : Nat → Prop} {w : World} {b N : Nat} {g : Eng} {sA : Option Addr} {sc mb : Nat} {lv : Value} {T : Nat → Value} {X : List Xe} (h : EngIs F w b N g sA sc mb lv T X) (hf : Fit g) (hv : ∀ v ∈ g.s, v.ok) {s : Nat} (hs : s < 32)
    {A : Option Addr} {c : Nat} {ws : List Tx.Sp} (hw : Tx.SlAt w A c ws) (hx : ∀ x ∈ ws, St.has g.s x.x) (hl : ws.length ≤ 64) (hT : TabAt w) :
    Calls Tryz.prog 71 #[.pointer (some ⟨b, 0, none⟩), .int .i64 (s : Nat), .slice A ws.length c] w (BehindPost (behind g.p s (aheadAll g.s s ws)) w) := by
  have hz := (zero_of_info zero_pool_info).1
  have H := Lib.hid h
  have HF := Lib.hid hf
  have HV := Lib.hid hv
  have HWS := Lib.hid hw
  have HXS := Lib.hid hx
  have HT := Lib.hid hT
  have HB0 := Lib.hid (Tx.below_new w (.cells (poolA zeroP) 87))
  have HR0 := Lib.hid (poolAt_new w zeroP 87)
  have H0 := Lib.hid (h.raw.alloc (.cells (poolA zeroP) 87))
  clear h hf hv hw hx hT
  go_enter Tryz.func71, Tryz.ntmps71
  go_wp2_with (first
    | (refine load_eng rfl 87 (.tmp 17) rfl b rfl _ H0.out Tryz.underlying87 rfl pool_info ?_)
    | (refine let_pool' rfl 87 (.tmp 8) (.tmp 18) rfl rfl (w.alloc (.cells (poolA zeroP) 87)) (w.heap.size + 1) g.p (Tx.size_new _ _) rfl rfl rfl pool_info ?_; intro w2 hp2 hb2; have H2 := Lib.hid (show BSt w g.p w2 from ⟨HR0.out.below (by rw [Tx.size_new]; exact hb2), hp2, HB0.out.trans (hb2.mono (Nat.le_succ _))⟩); clear hp2 hb2))
  clear HB0 HR0 H0
  go_loopw [9, 21] (BaRel w g.p g.s s ws) (fun _ i _ => 64 - (intOf i).toNat)
  case atStart => exact ⟨0, g.p, Nat.zero_le _, rfl, rfl, rfl, HF.out.ps, rfl, H2.out⟩
  case round =>
    obtain ⟨k, q, hk, rfl, rfl, hbe, hq, hqc, hst⟩ := hrel
    have HST := Lib.hid hst
    have HQ := Lib.hid hq
    have HBE := Lib.hid hbe
    have HQC := Lib.hid hqc
    clear hst hq hbe hqc
    by_cases hlt : k < ws.length
    · obtain ⟨ad, s0, rfl, hs0, hok, h4⟩ := (HWS.out.at_.below HST.out.bel (Nat.le_refl _)).at_ hlt
      obtain ⟨c0, c1, c2, c3⟩ := h4
      have hlt' : (k : Int) < (ws.length : Int) := by omega
      have HX := Lib.hid (HXS.out s0 (List.mem_of_getElem? hs0))
      obtain ⟨v, hv⟩ : ∃ v, St.at_ g.s s0.x = v := ⟨_, rfl⟩
      have HVA := Lib.hid hv
      have HVO := Lib.hid (show v.ok by rw [← hv]; exact HV.out _ (get_mem HX.out))
      have HA := Lib.hid (ahead_drop (S := g.s) (s := s) hs0 q)
      have HL := Lib.hid (show LSt w q wr.heap.size #[.int .i64 s0.x, .int .i64 s0.k, .int .i64 s0.n, .bool s0.wr] 76 (wr.alloc (.cells #[.int .i64 s0.x, .int .i64 s0.k, .int .i64 s0.n, .bool s0.wr] 76)) from ⟨HST.out.below (Tx.below_new _ _), Tx.Blk.new _ _ _⟩)
      have HWR := Lib.hid HST.out.lt
      clear hs0 hok hv
      go_wp2
      clear c0 c1 c2 c3 hlt'
      generalize wr.alloc (.cells #[.int .i64 s0.x, .int .i64 s0.k, .int .i64 s0.n, .bool s0.wr] 76) = wl at *
      go_cut [12, 13] from 25 to 34 (fun u t wx => ∃ y, u = .pointer (some ⟨y, 0, none⟩) ∧ BSt w q wx ∧ Tx.Blk wx y #[.int .i64 v.k, .int .i64 v.n, .int .i64 v.ver, .int .i64 v.wr, .int .u64 (v.m : Nat)] 141 ∧ w.heap.size + 1 < y)
      case first =>
        refine wp_region_noPanic ?_
        refine region_z 13 (LSt w q (wr.heap.size) #[.int .i64 s0.x, .int .i64 s0.k, .int .i64 s0.n, .bool s0.wr] 76) 11 9 rfl (by kernel_rfl) (HL.out.below (below_drew _)) (fun hHeld => ?_)
        refine take_z 0 26 (.pointer (some ⟨b, 0, none⟩)) rfl rfl (by kernel_rfl) (by kernel_rfl) (by kernel_rfl) (by kernel_rfl) (fun _ _ _ h => h) (Or.inl ⟨by rfl, by intro W hW; clear hW; go_simp⟩) hHeld ?_
        simp only [put_laws]
        refine take_z 1 27 (.pointer (some ⟨b, 0, none⟩)) rfl rfl (by kernel_rfl) (by kernel_rfl) (by kernel_rfl) (by kernel_rfl) (fun _ _ _ h => h) (Or.inl ⟨by rfl, by intro W hW; clear hW; go_simp⟩) hHeld ?_
        simp only [put_laws]
        refine take_z 2 28 (.pointer (some ⟨b, 100, none⟩)) rfl rfl (by kernel_rfl) (by kernel_rfl) (by kernel_rfl) (by kernel_rfl) (fun _ _ _ h => h) (Or.inl ⟨by rfl, by intro W hW; clear hW; go_simp⟩) hHeld ?_
        simp only [put_laws]
        refine take_z 3 29 (.slice sA g.s.length sc) rfl rfl (by kernel_rfl) (by kernel_rfl) (by kernel_rfl) (by kernel_rfl) (fun _ _ _ h => h) (Or.inl ⟨by rfl, by intro W hW; have hc := (H.out.below hW.st.bel).raw.store_; clear hW; go_simp⟩) hHeld ?_
        simp only [put_laws]
        refine take_z 4 30 (.pointer (some ⟨wr.heap.size, 0, none⟩)) rfl rfl (by kernel_rfl) (by kernel_rfl) (by kernel_rfl) (by kernel_rfl) (fun _ _ _ h => h) (Or.inl ⟨by rfl, by intro W hW; clear hW; go_simp⟩) hHeld ?_
        simp only [put_laws]
        refine take_z 5 31 (.int .i64 s0.x) rfl rfl (by kernel_rfl) (by kernel_rfl) (by kernel_rfl) (by kernel_rfl) (fun _ _ _ h => h) (Or.inl ⟨by rfl, by intro W hW; have hc := hW.bx.cell 0; clear hW; go_simp⟩) hHeld ?_
        simp only [put_laws]
        refine anyZ_ready (rs := [6, 10]) (by kernel_rfl) (by simp) ?_
        refine AllZ.cons rfl (fun K hK => ?_) (AllZ.cons rfl (fun K hK => ?_) AllZ.nil)
        · go_simp
          refine (sget_val (H.out.below hHeld.st.bel).st.at_ HX.out HVA.out).mono ?_
          rintro e wg ⟨rfl, hb⟩
          try go_simp
          have hPrev := hHeld
          have hHeld := hHeld.below hb
          clear hPrev
          refine hK.out _ _ hHeld (fun hHeld => ?_)
          clear hK K
          refine take_z 7 25 (.tuple #[.agg #[.int .i64 v.k, .int .i64 v.n, .int .i64 v.ver, .int .i64 v.wr, .int .u64 (v.m : Nat)], .int .i64 0]) rfl rfl (by kernel_rfl) (by kernel_rfl) (by kernel_rfl) (by kernel_rfl) (fun _ _ _ h => h) (Or.inl ⟨by rfl, by intro W hW; clear hW; go_simp⟩) hHeld ?_
          simp only [put_laws]
          refine take_z 8 33 (.agg #[.int .i64 v.k, .int .i64 v.n, .int .i64 v.ver, .int .i64 v.wr, .int .u64 (v.m : Nat)]) rfl rfl (by kernel_rfl) (by kernel_rfl) (by kernel_rfl) (by kernel_rfl) (fun _ _ _ h => h) (Or.inl ⟨by rfl, by intro W hW; clear hW; go_simp⟩) hHeld ?_
          simp only [put_laws]
          refine take_e 34 (.int .i64 0) rfl rfl (by kernel_rfl) (by kernel_rfl) (by kernel_rfl) (fun _ _ _ h => h) (Or.inl ⟨by rfl, by intro W hW; clear hW; go_simp⟩) ?_
          simp only [put_laws]
          refine anyZ_ready (rs := [10]) (by kernel_rfl) (by simp) ?_
          refine AllZ.cons rfl (fun K hK => ?_) AllZ.nil
          go_simp
          have hN : Tx.Blk ((wg.alloc (.cells #[.int .i64 0, .int .i64 0, .int .i64 0, .int .i64 0, .int .u64 0] 141))) (wg.heap.size) #[.int .i64 0, .int .i64 0, .int .i64 0, .int .i64 0, .int .u64 0] 141 := Tx.Blk.new (wg) #[.int .i64 0, .int .i64 0, .int .i64 0, .int .i64 0, .int .u64 0] 141
          have hPrev := hHeld
          have hHeld := hHeld.below (show Below _ _ ((wg.alloc (.cells #[.int .i64 0, .int .i64 0, .int .i64 0, .int .i64 0, .int .u64 0] 141))) from Tx.below_new (wg) (.cells #[.int .i64 0, .int .i64 0, .int .i64 0, .int .i64 0, .int .u64 0] 141))
          have hy : wr.heap.size < wg.heap.size := hPrev.bx.lt
          generalize (wg.alloc (.cells #[.int .i64 0, .int .i64 0, .int .i64 0, .int .i64 0, .int .u64 0] 141)) = wa at *
          clear hPrev
          refine hK.out _ _ hHeld (fun hHeld => ?_)
          clear hK K
          refine anyZ_ready (rs := [11]) (by kernel_rfl) (by simp) ?_
          refine AllZ.last rfl rfl (fun K hK => ?_)
          have n0 := hN.cell 0
          have n1 := hN.cell 1
          have n2 := hN.cell 2
          have n3 := hN.cell 3
          have n4 := hN.cell 4
          have nf := hN.free
          go_simp
          clear n0 n1 n2 n3 n4 nf
          refine hK.out _ _ ?_
          clear hK K
          refine anyZ_ready (rs := [12]) (by kernel_rfl) (by simp) ?_
          refine AllZ.last rfl rfl (fun K hK => ?_)
          go_simp
          refine hK.out _ _ ?_
          clear hK K
          refine anyZ_done (by kernel_rfl) ?_ _
          refine NoPanic.normal ?_
          go_wp2_with fail
          go_meet
          exact ⟨_, rfl, hHeld.st.put (by have := HWR.out; omega) _ _ _ _ _, blk_put5 hN _ _ _ _ _, by have := HWR.out; omega⟩
        · go_simp
          have hN : Tx.Blk ((wl.alloc (.cells #[.int .i64 0, .int .i64 0, .int .i64 0, .int .i64 0, .int .u64 0] 141)).drew) (wl.heap.size) #[.int .i64 0, .int .i64 0, .int .i64 0, .int .i64 0, .int .u64 0] 141 := Tx.Blk.new (wl.drew) #[.int .i64 0, .int .i64 0, .int .i64 0, .int .i64 0, .int .u64 0] 141
          have hPrev := hHeld
          have hHeld := hHeld.below (show Below _ _ ((wl.alloc (.cells #[.int .i64 0, .int .i64 0, .int .i64 0, .int .i64 0, .int .u64 0] 141)).drew) from Tx.below_new (wl.drew) (.cells #[.int .i64 0, .int .i64 0, .int .i64 0, .int .i64 0, .int .u64 0] 141))
          have hy : wr.heap.size < wl.heap.size := hPrev.bx.lt
          generalize (wl.alloc (.cells #[.int .i64 0, .int .i64 0, .int .i64 0, .int .i64 0, .int .u64 0] 141)).drew = wa at *
          clear hPrev
          refine hK.out _ _ hHeld (fun hHeld => ?_)
          clear hK K
          refine anyZ_ready (rs := [6]) (by kernel_rfl) (by simp) ?_
          refine AllZ.cons rfl (fun K hK => ?_) AllZ.nil
          go_simp
          refine (sget_val (H.out.below hHeld.st.bel).st.at_ HX.out HVA.out).mono ?_
          rintro e wg ⟨rfl, hb⟩
          try go_simp
          have hPrev := hHeld
          have hHeld := hHeld.below hb
          have hN := hN.below hb
          clear hPrev
          refine hK.out _ _ hHeld (fun hHeld => ?_)
          clear hK K
          refine take_z 7 25 (.tuple #[.agg #[.int .i64 v.k, .int .i64 v.n, .int .i64 v.ver, .int .i64 v.wr, .int .u64 (v.m : Nat)], .int .i64 0]) rfl rfl (by kernel_rfl) (by kernel_rfl) (by kernel_rfl) (by kernel_rfl) (fun _ _ _ h => h) (Or.inl ⟨by rfl, by intro W hW; clear hW; go_simp⟩) hHeld ?_
          simp only [put_laws]
          refine take_z 8 33 (.agg #[.int .i64 v.k, .int .i64 v.n, .int .i64 v.ver, .int .i64 v.wr, .int .u64 (v.m : Nat)]) rfl rfl (by kernel_rfl) (by kernel_rfl) (by kernel_rfl) (by kernel_rfl) (fun _ _ _ h => h) (Or.inl ⟨by rfl, by intro W hW; clear hW; go_simp⟩) hHeld ?_
          simp only [put_laws]
          refine take_e 34 (.int .i64 0) rfl rfl (by kernel_rfl) (by kernel_rfl) (by kernel_rfl) (fun _ _ _ h => h) (Or.inl ⟨by rfl, by intro W hW; clear hW; go_simp⟩) ?_
          simp only [put_laws]
          refine anyZ_ready (rs := [11]) (by kernel_rfl) (by simp) ?_
          refine AllZ.last rfl rfl (fun K hK => ?_)
          have n0 := hN.cell 0
          have n1 := hN.cell 1
          have n2 := hN.cell 2
          have n3 := hN.cell 3
          have n4 := hN.cell 4
          have nf := hN.free
          go_simp
          clear n0 n1 n2 n3 n4 nf
          refine hK.out _ _ ?_
          clear hK K
          refine anyZ_ready (rs := [12]) (by kernel_rfl) (by simp) ?_
          refine AllZ.last rfl rfl (fun K hK => ?_)
          go_simp
          refine hK.out _ _ ?_
          clear hK K
          refine anyZ_done (by kernel_rfl) ?_ _
          refine NoPanic.normal ?_
          go_wp2_with fail
          go_meet
          exact ⟨_, rfl, hHeld.st.put (by have := HWR.out; omega) _ _ _ _ _, blk_put5 hN _ _ _ _ _, by have := HWR.out; omega⟩
      case rest =>
        obtain ⟨y, rfl, hbs, hy, hyl⟩ := hcut
        have c4 := hy.cell 4
        have HY := Lib.hid hy
        have HBS := Lib.hid hbs
        have HTC := Lib.hid (HT.out.below hbs.bel HT.out.lt)
        clear hbs hy
        go_wp2_with (first
          | (go_at_call 81; refine (less_val v.m s _ _ HVO.out.2.2.2.2 (by omega) rfl).mono ?_; rintro e w' ⟨rfl, rfl⟩)
          | (go_at_call 39; refine (items_any _ _ (Sm.less_lt _ HVO.out.2.2.2.2) HTC.out).mono ?_; rintro e wi ⟨ri, rfl, hri, hbi⟩))
        obtain ⟨RA, rc, rfl, hI0⟩ := OwnZ.slice (l := readers v s) (w := wi) (base := wc.heap.size) (v := ri) (by unfold readers OwnZ; rw [List.length_map]; rw [vals_ints] at hri; exact hri) (fun z hz => by unfold readers at hz; obtain ⟨k, hk, rfl⟩ := List.mem_map.1 hz; have := Sm.items_lt hk; exact ⟨by omega, by omega⟩)
        have HLR := Lib.hid (show (readers v s).length ≤ 64 by unfold readers; rw [List.length_map]; exact Sm.items_len _)
        have hlr : (readers v s).length = (Sm.items (Sm.less v.m (s : Nat))).length := by unfold readers; simp
        rw [hlr]
        have HLW := Lib.hid (show (writer v).length ≤ 1 by unfold writer; split <;> simp)
        have HLEN := Lib.hid (show (writer v).length + (readers v s).length ≤ 1000 by have := HLR.out; have := HLW.out; omega)
        have HAO := Lib.hid (show aheadOf v s = writer v ++ readers v s from rfl)
        have HOK := Lib.hid (show ∀ z ∈ aheadOf v s, i64s z from fun z hz => by
          rw [HAO.out] at hz
          rcases List.mem_append.1 hz with h | h
          · unfold writer at h
            split at h
            · cases h
            · rw [List.mem_singleton] at h; subst h; exact HVO.out.2.2.2.1
          · unfold readers at h; obtain ⟨k, hk, rfl⟩ := List.mem_map.1 h; have := Sm.items_lt hk; exact ⟨by omega, by omega⟩)
        have HL7 := Lib.hid (show LSt w q y #[.int .i64 v.k, .int .i64 v.n, .int .i64 v.ver, .int .i64 v.wr, .int .u64 (v.m : Nat)] 141 wi from ⟨HBS.out.below hbi, HY.out.below hbi⟩)
        obtain ⟨ob, hob⟩ : ∃ ob, behind q s (aheadOf v s) = ob := ⟨_, rfl⟩
        have HOB := Lib.hid hob
        have HQN := Lib.hid (show q.count ≤ 1000000 by rw [HQC.out]; exact HF.out.cnt)
        have HLA := Lib.hid (show (aheadOf v s).length ≤ 100000 by have := HLEN.out; unfold aheadOf; rw [List.length_append]; omega)
        clear hob
        have hI := (IntR.mk hI0).below (below_drew wi)
        clear hri hbi hI0 hlr c4 HL
        go_wp2
        go_cut [9] from 40 to 49 (fun u wx => ∃ qq, u = .bool ob.isSome ∧ (∀ r, ob = some r → qq = r) ∧ BSt w qq wx)
        case first =>
          refine wp_region_noPanic ?_
          refine region_z 12 (LSt w q y #[.int .i64 v.k, .int .i64 v.n, .int .i64 v.ver, .int .i64 v.wr, .int .u64 (v.m : Nat)] 141) 10 9 rfl (by kernel_rfl) (HL7.out.below (below_drew _)) (fun hHeld => ?_)
          refine take_z 0 41 (.agg (poolA q)) rfl rfl (by kernel_rfl) (by kernel_rfl) (by kernel_rfl) (by kernel_rfl) (fun _ _ _ h => h) (yields_pool (by rfl) 87 (.tmp 8) rfl (w.heap.size + 1) rfl 87 q _ (fun W h => h.st.po) Tryz.underlying87 rfl pool_info) hHeld ?_
          simp only [put_laws]
          refine take_z 1 42 (.int .i64 (s : Nat)) rfl rfl (by kernel_rfl) (by kernel_rfl) (by kernel_rfl) (by kernel_rfl) (fun _ _ _ h => h) (Or.inl ⟨by rfl, by intro W hW; clear hW; go_simp⟩) hHeld ?_
          simp only [put_laws]
          refine take_z 2 43 (.agg #[.int .i64 v.k, .int .i64 v.n, .int .i64 v.ver, .int .i64 v.wr, .int .u64 (v.m : Nat)]) rfl rfl (by kernel_rfl) (by kernel_rfl) (by kernel_rfl) (by kernel_rfl) (fun _ _ _ h => h) (yields_blk (by rfl) 141 (.tmp 12) rfl y rfl 141 #[.int .i64 v.k, .int .i64 v.n, .int .i64 v.ver, .int .i64 v.wr, .int .u64 (v.m : Nat)] _ (fun W h => h.bx) Tryz.underlying141 Sx.var_size) hHeld ?_
          simp only [put_laws]
          refine take_z 4 45 (.slice RA (Sm.items (Sm.less v.m (s : Nat))).length rc) rfl rfl (by kernel_rfl) (by kernel_rfl) (by kernel_rfl) (by kernel_rfl) (fun _ _ _ h => h) (Or.inl ⟨by rfl, by intro W hW; clear hW; go_simp⟩) hHeld ?_
          simp only [put_laws]
          refine anyZ_ready (rs := [3]) (by kernel_rfl) (by simp) ?_
          refine AllZ.cons rfl (fun K hK => ?_) AllZ.nil
          go_simp
          refine (writer_own v _ HVO.out.2.2.2.1).mono ?_
          rintro e wu ⟨uu, rfl, hU, hb⟩
          try go_simp
          have hPrev := hHeld
          have hHeld := hHeld.below hb
          have hUS := hb.size
          have hB1 := hPrev.st.lt
          have hB2 := hPrev.bx.lt
          have hT1 := HT.out.below hHeld.st.bel HT.out.lt
          have hI := hI.below hb
          clear hPrev
          refine hK.out _ _ hHeld (fun hHeld => ?_)
          clear hK K
          refine anyZ_ready (rs := [5]) (by kernel_rfl) (by simp) ?_
          refine AllZ.cons rfl (fun K hK => ?_) AllZ.nil
          refine step_append_ints rfl (.tmp 44) (.tmp 45) rfl rfl hU RA rc (readers v s) (by unfold readers; simp) rfl hI.at_ HLEN.out hUS ?_
          intro va wp hoa hba hsa
          rw [← HAO.out] at hoa
          obtain ⟨OA, oc, rfl, hoi⟩ := hoa.slice HOK.out
          have hHeld := hHeld.behind_ hba hB1 hB2
          have hT2 := hT1.below hba (Nat.lt_of_lt_of_le HT.out.lt (by omega))
          clear hU hUS hI hba hsa hoa hB1 hB2 hT1
          refine hK.out _ _ hHeld (fun hHeld => ?_)
          clear hK K
          refine anyZ_ready (rs := [6]) (by kernel_rfl) (by simp) ?_
          refine AllZ.cons rfl (fun K hK => ?_) AllZ.nil
          go_simp
          refine (behind_val HOB.out _ HQ.out HQN.out hs hoi HLA.out hT2).mono ?_
          rintro e wz ⟨⟨qq, rfl, hqq⟩, hb⟩
          try go_simp
          have hPrev := hHeld
          have hHeld := hHeld.below hb
          clear hPrev
          refine hK.out _ _ hHeld (fun hHeld => ?_)
          clear hK K
          refine take_z 7 40 (.tuple #[.agg (poolA qq), .bool ob.isSome]) rfl rfl (by kernel_rfl) (by kernel_rfl) (by kernel_rfl) (by kernel_rfl) (fun _ _ _ h => h) (Or.inl ⟨by rfl, by intro W hW; clear hW; go_simp⟩) hHeld ?_
          simp only [put_laws]
          refine take_z 8 48 (.agg (poolA qq)) rfl rfl (by kernel_rfl) (by kernel_rfl) (by kernel_rfl) (by kernel_rfl) (fun _ _ _ h => h) (Or.inl ⟨by rfl, by intro W hW; clear hW; go_simp⟩) hHeld ?_
          simp only [put_laws]
          refine take_e 49 (.bool ob.isSome) rfl rfl (by kernel_rfl) (by kernel_rfl) (by kernel_rfl) (fun _ _ _ h => h) (Or.inl ⟨by rfl, by intro W hW; clear hW; go_simp⟩) ?_
          simp only [put_laws]
          refine anyZ_ready (rs := [10]) (by kernel_rfl) (by simp) ?_
          refine AllZ.last rfl rfl (fun K hK => ?_)
          refine step_store_box rfl 87 (.tmp 8) (.tmp 48) rfl rfl (w.heap.size + 1) q qq 87 rfl rfl hHeld.st.po pool_info ?_
          refine hK.out _ _ ?_
          clear hK K
          refine anyZ_ready (rs := [11]) (by kernel_rfl) (by simp) ?_
          refine AllZ.last rfl rfl (fun K hK => ?_)
          go_simp
          refine hK.out _ _ ?_
          clear hK K
          refine anyZ_done (by kernel_rfl) ?_ _
          refine NoPanic.normal ?_
          go_wp2_with fail
          go_meet
          exact ⟨qq, rfl, hqq, hHeld.st.box⟩
        case rest =>
          obtain ⟨qq, rfl, hqq, hbq⟩ := hcut
          have HB2 := Lib.hid hbq
          clear hbq
          rcases ob with _ | r
          all_goals have ho := HOB.out
          · have HE2 := Lib.hid (show behind g.p s (aheadAll g.s s ws) = none by rw [← HBE.out, HA.out, HVA.out, ho]; rfl)
            clear hqq ho
            go_wp2_with (first
              | (refine load_pool rfl 87 (.tmp 8) rfl (w.heap.size + 1) qq 87 rfl _ HB2.out.po Tryz.underlying87 rfl pool_info ?_)
              | (refine store_pool rfl 87 (.tmp 6) (.tmp 52) rfl rfl w.heap.size _ qq 87 rfl rfl HB2.out.re pool_info ?_))
            refine bodyPost_ret (results_pool rfl _ _ w.heap.size 87 qq _ (.bool false) rfl rfl (HB2.out.tell _).1 Tryz.underlying87 rfl pool_info) rfl ?_
            rw [HE2.out]
            exact ⟨⟨qq, rfl, fun r e => by cases e⟩, (HB2.out.tell _).2⟩
          · obtain rfl := hqq r rfl
            have HE2 := Lib.hid (show behind qq s (aheadAll g.s s (ws.drop (k + 1))) = behind g.p s (aheadAll g.s s ws) by rw [← HBE.out, HA.out, HVA.out, ho]; rfl)
            have HM := Lib.hid (behind_more HQ.out ho).1
            clear hqq ho
            go_wp2
            exact ⟨⟨k + 1, qq, by omega, rfl, by go_num, HE2.out, HM.out.sound, by rw [HM.out.count]; exact HQC.out, HB2.out⟩, by simp [intOf]; omega⟩
    · obtain rfl : k = ws.length := by omega
      have HE2 := Lib.hid (show behind g.p s (aheadAll g.s s ws) = some q by rw [← HBE.out, List.drop_length]; rfl)
      go_wp2_with (first
        | (refine load_pool rfl 87 (.tmp 8) rfl (w.heap.size + 1) q 87 rfl _ HST.out.po Tryz.underlying87 rfl pool_info ?_)
        | (refine store_pool rfl 87 (.tmp 6) (.tmp 54) rfl rfl w.heap.size _ q 87 rfl rfl HST.out.re pool_info ?_))
      refine bodyPost_ret (results_pool rfl _ _ w.heap.size 87 q _ (.bool true) rfl rfl (HST.out.tell _).1 Tryz.underlying87 rfl pool_info) rfl ?_
      rw [HE2.out]
      exact ⟨⟨q, rfl, fun r e => by cases e; rfl⟩, (HST.out.tell _).2⟩
end Go.Proofs.YtfdfiiocccafkaaGreatDoor.En
