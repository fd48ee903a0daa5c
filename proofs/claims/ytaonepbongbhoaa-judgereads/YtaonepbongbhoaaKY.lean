/-
  The contract of Find.
-/
import Derived.Test.YtaonepbongbhoaaKO
import Derived.Test.YtaonepbongbhoaaKM
import Derived.Test.YtaonepbongbhoaaKW
import Derived.Test.YtaonepbongbhoaaKH
import Derived.Test.YtaonepbongbhoaaKE
namespace Go.Proofs.Ytaonepbongbhoaa.Jd
open Go.RowKit
open Az
open Hi (Ev encE crs crL step_store_mat GrPost graph_any idsL)
def up (l : List Nat) : List Int := l.map fun i => ((i : Nat) : Int) + 1
theorem up_len (l : List Nat) : (up l).length = l.length := by simp [up]
theorem up_at {l : List Nat} {k i : Nat} (h : l[k]? = some i) : (up l)[k]? = some ((i : Int) + 1) := by unfold up; rw [List.getElem?_map, h]; rfl
theorem up_snoc (l : List Nat) (i : Nat) : up (l ++ [i]) = up l ++ [(i : Int) + 1] := by simp [up]
theorem up_erase (l : List Nat) (k : Nat) : up (l.eraseIdx k) = (up l).eraseIdx k := by
  unfold up
  rw [List.eraseIdx_eq_take_drop_succ, List.eraseIdx_eq_take_drop_succ, List.map_append, List.map_take, List.map_drop]
theorem up_ids (n : Nat) : idsL n = up (opn n []) := by rw [opn_nil]; rfl
/-- the graph's box, who does not stand yet, and who does. -/
structure FC (w : World) (b g c : Nat) (vr : Value) (lo lr : List Nat) (m : Mm.Gr) (W : World) : Prop where
  mt : MatAt W b m 36
  lo_ : w.heap.size ≤ b
  bg : b < g
  op : Rn.Own Hi.encI W g 3 (.slice (some ⟨g, 0, none⟩) lo.length c) (up lo)
  ro : Rn.Own Hi.encI W (g + 1) 3 vr (up lr)
  bel : Below w.heap.size w W
section
variable {w : World} {b g c : Nat} {vr : Value} {lo lr : List Nat} {m : Mm.Gr} {W : World}
theorem FC.below {W' : World} (h : FC w b g c vr lo lr m W) (hb : Below W.heap.size W W') : FC w b g c vr lo lr m W' :=
  ⟨h.mt.below hb, h.lo_, h.bg, h.op.below hb (Nat.le_refl _), h.ro.below hb (Nat.le_refl _), h.bel.trans (hb.mono h.bel.size)⟩
theorem FC.drew (h : FC w b g c vr lo lr m W) : FC w b g c vr lo lr m W.drew := h.below (Below.refl _ _).drew
theorem FC.glt (h : FC w b g c vr lo lr m W) : g < W.heap.size := (own_fresh h.op g rfl).2
theorem FC.cell (h : FC w b g c vr lo lr m W) {k i : Nat} (hk : lo[k]? = some i) : W.cell? ⟨g, k, none⟩ = some (.int .i64 ((i : Int) + 1)) := by
  have hle : (up lo).length = lo.length := up_len _
  have hop := h.op
  rw [← hle] at hop
  have h1 := hop.get (up_at hk) 0 (by decide)
  simp only [Nat.mul_one, Nat.add_zero, List.getElem?_cons_zero] at h1
  exact h1
/-- one more stands. -/
theorem FC.more {W' : World} {v' : Value} {lr' : List Nat} (h : FC w b g c vr lo lr m W) (hb : Below (g + 1) W W') (ho : Rn.Own Hi.encI W' (g + 1) 3 v' (up lr')) : FC w b g c v' lo lr' m W' :=
  ⟨(hb.block b (by have := h.bg; omega)).trans h.mt, h.lo_, h.bg, own_keep h.op fun q hq => hb.block q (by have e : g = q := Option.some.inj hq; omega), ho, h.bel.trans (hb.mono (by have := h.lo_; have := h.bg; omega))⟩
theorem FC.cut {m' : Mm.Gr} (h : FC w b g c vr lo lr m W) : FC w b g c vr lo lr m' (W.setRow b (matA m')) :=
  ⟨matAt_put h.mt, h.lo_, h.bg, own_keep h.op fun q hq => setRow_other _ _ _ _ (by have e : g = q := Option.some.inj hq; have := h.bg; omega), own_keep h.ro fun q hq => setRow_other _ _ _ _ (by have := (own_fresh h.ro q hq).1; have := h.bg; omega), h.bel.trans (setRow_below (Below.refl _ _) h.lo_)⟩
/-- one of those that do not stand is deleted. -/
theorem FC.del {k i : Nat} (h : FC w b g c vr lo lr m W) (hk : lo[k]? = some i) :
    Calls Try.prog 10 #[.slice (some ⟨g, 0, none⟩) lo.length c, .int .i64 (k : Nat), .int .i64 ((k : Int) + 1)] W fun e w' => e = .returned (.slice (some ⟨g, 0, none⟩) (lo.eraseIdx k).length c) ∧ FC w b g c vr (lo.eraseIdx k) lr m w' := by
  have hkl := (List.getElem?_eq_some_iff.1 hk).1
  have hle : (up lo).length = lo.length := up_len _
  have hop := h.op
  rw [← hle] at hop
  have hc : (up lo).length ≤ c ∧ c ≤ maxLen := by
    obtain ⟨g', c', e, _, _, h1, h2⟩ := own_some hop (by omega)
    obtain ⟨_, _, rfl⟩ := Value.slice.inj e
    exact ⟨h1, h2⟩
  have hd := AnyG.slices_Delete_int Try.delI g 0 c k (k + 1) (up lo) W (own_holds hop) hc.1 (by unfold maxLen at hc; omega) (by omega) (by omega)
  rw [hle] at hd
  have hle2 : (lo.eraseIdx k).length = lo.length - 1 := List.length_eraseIdx_of_lt hkl
  refine Calls.mono (show Calls Try.prog 10 #[.slice (some ⟨g, 0, none⟩) lo.length c, .int .i64 (k : Nat), .int .i64 ((k : Int) + 1)] W _ from hd) ?_
  rintro e w' ⟨rfl, q, rfl⟩
  have hb := h.bg
  refine ⟨by rw [hle2]; simp, ?_⟩
  refine ⟨(del_other (by omega)).trans h.mt, h.lo_, h.bg, ?_, own_keep h.ro fun q hq => del_other (by have := (own_fresh h.ro q hq).1; omega), h.bel.trans (del_below (by have := h.lo_; omega))⟩
  have := own_del (q := q) hop (k := k) (by omega)
  rw [hle2, up_erase, ← hle]
  exact this
end
noncomputable def fndB (L : List Ev) : Bool := @decide (Fnd L) (Classical.propDecidable _)
theorem fndB_iff (L : List Ev) : fndB L = true ↔ Fnd L := by unfold fndB; simp
theorem fndB_yes {L : List Ev} (h : Fnd L) : fndB L = true := (fndB_iff L).2 h
theorem fndB_no {L : List Ev} (h : ¬ Fnd L) : fndB L = false := by
  cases hb : fndB L with
  | false => rfl
  | true => exact absurd ((fndB_iff L).1 hb) h
noncomputable def fndO (L : List Ev) : List Int := if fndB L then fndL L else []
def FindPost (L : List Ev) (w : World) (r : Ending) (w' : World) : Prop := ∃ v, r = .returned (.tuple #[v, .bool (fndB L)]) ∧ Rn.Own Hi.encI w' w.heap.size 3 v (fndO L) ∧ Below w.heap.size w w'
theorem find_none {L : List Ev} {w w' : World} (h : ¬ Fnd L) (hb : Below w.heap.size w w') : FindPost L w (.returned (.tuple #[.slice none 0 0, .bool false])) w' := by
  refine ⟨_, by rw [fndB_no h], ?_, hb⟩
  unfold fndO
  rw [fndB_no h]
  exact Rn.Own.nil _ _ _
def lenV : Value → Nat
  | .slice _ n _ => n
  | _ => 0
def FindJ (w : World) (L : List Ev) (a0 : Value) (a' : Act) (w' : World) : Prop :=
  ∃ (b g c : Nat) (had : List Nat) (m : Mm.Gr) (vr : Value) (u8 u9 u10 u11 u12 u13 u14 u15 u16 u17 u18 u19 u20 u21 u22 u23 u24 u25 u26 u27 u28 u29 u30 u31 u32 u33 u34 u35 u36 u37 u38 u39 u40 u41 u42 u43 u44 u45 u46 u47 u48 : Value),
    a' = { tmps := #[a0, undef, .slice none 0 0, .bool false, .pointer (some ⟨b, 0, none⟩), .bool true, .slice (some ⟨g, 0, none⟩) (opn (crL L).length had).length c, vr, u8, u9, u10, u11, u12, u13, u14, u15, u16, u17, u18, u19, u20, u21, u22, u23, u24, u25, u26, u27, u28, u29, u30, u31, u32, u33, u34, u35, u36, u37, u38, u39, u40, u41, u42, u43, u44, u45, u46, u47, u48], defers := [] } ∧
    (crs L).isSome = true ∧ FC w b g c vr (opn (crL L).length had) had m w' ∧ Left L had m ∧ Srch (eL L) (crL L).length had
set_option maxRecDepth 100000 in
set_option maxHeartbeats 8000000 in
theorem find_any (A : Option Addr) (c0 : Nat) (L : List Ev) (w : World) (h : Rn.At encE w A L) (hok : ∀ e ∈ L, e.ok) (hl : L.length ≤ 2000) :
    Calls Try.prog 8 #[.slice A L.length c0] w (FindPost L w) := by
  have H := Lib.hid h
  have HOK := Lib.hid hok
  have HL := Lib.hid hl
  obtain ⟨i0, hi, hz0, hz1, hz2⟩ := info_parts Hi.int_info
  have HGR := Lib.hid (graph_any A c0 L w H.out HOK.out HL.out)
  unfold GrPost at HGR
  clear h hok hl
  go_enter Try.func8, Try.ntmps8
  go_wp2
  refine wp_scope_jumps3 0 (FindJ w L (.slice A L.length c0)) (fun a' _ => lenV (a'.tmps.getD 6 undef)) rfl ?_ ?_
  · intro hp
    have HP := Lib.hid hp
    clear hp
    go_wp2_with fail
    refine HGR.out.mono ?_
    rintro r w1 ⟨m0, rfl, his, hb⟩
    have HIS := Lib.hid his
    have HB := Lib.hid hb
    clear hb his
    cases hcs : (crs L).isSome with
    | false =>
      have HNF := Lib.hid (show ¬ Fnd L from fun q => by have := q.1; rw [hcs] at this; cases this)
      clear hcs
      go_wp2_with (refine wpList_store_row rfl 36 (.tmp 4) (.tmp 12) rfl w1.heap.size (matA m0) rfl rfl 36 _ (heap_alloc_new _ _) (matInfo m0) (by rw [matA_size]; rfl) (matA_one _) ?_)
      generalize hw2 : World.setRow _ w1.heap.size (matA m0) = w2
      have HX := Lib.hid (show Hi.MB w1 m0 w2 from by rw [← hw2]; exact Hi.mat_box w1 m0)
      clear hw2
      go_wp2
      simp only [Exit.jump]
      go_ret2
      exact find_none HNF.out (HB.out.trans (HX.out.bel.mono HB.out.size))
    | true =>
      have HCS := Lib.hid hcs
      have HRW := Lib.hid (row_is HL.out hcs)
      clear hcs
      have hN32 : (crL L).length ≤ 32 := HRW.out.few
      go_wp2_with (refine wpList_store_row rfl 36 (.tmp 4) (.tmp 12) rfl w1.heap.size (matA m0) rfl rfl 36 _ (heap_alloc_new _ _) (matInfo m0) (by rw [matA_size]; rfl) (matA_one _) ?_)
      generalize hw2 : World.setRow _ w1.heap.size (matA m0) = w2
      have HX := Lib.hid (show Hi.MB w1 m0 w2 from by rw [← hw2]; exact Hi.mat_box w1 m0)
      clear hw2
      have HB2 := Lib.hid (HB.out.trans (HX.out.bel.mono HB.out.size))
      go_wp2_with fail
      refine (ids_own A c0 L w2 (H.out.below HB2.out (Nat.le_refl _)) HOK.out HL.out).mono ?_
      rintro r w3 ⟨g, c, rfl, hg, hop, hb⟩
      have hlen : (idsL (crL L).length).length = (opn (crL L).length []).length := by rw [up_ids, up_len]
      have hon : (opn (crL L).length []).length = (crL L).length := by rw [opn_nil, List.length_range]
      rw [hlen] at hop ⊢
      have HGG := Lib.hid (show w1.heap.size < g from by have := HX.out.bx.lt; omega)
      have HF0 := Lib.hid (show FC w w1.heap.size g c (.slice none 0 0) (opn (crL L).length []) [] m0 w3 from
        ⟨HX.out.bx.below hb, HB.out.size, HGG.out, by rw [up_ids] at hop; exact hop, Rn.Own.nil _ _ _, HB2.out.trans (hb.mono HB2.out.size)⟩)
      clear hb hg hop hlen
      generalize w1.heap.size = b at HF0
      have HON := Lib.hid hon
      have hoN : ((opn (crL L).length []).length : Int) ≤ 32 := by omega
      clear hon
      have hmk := fun W => run_make (P := Try.prog) W 26 3 i0 (.int .i64 0) Try.underlying26 hi hz0 .i64 .i64 0 ((opn (crL L).length []).length : Nat) (by omega) (by omega) (by rw [hz2]; omega) (by omega)
      go_wp2
      go_step3
      rename_i hK
      apply hK
      refine HP.out _ _ ⟨b, g, c, [], m0, _, _, _, _, _, _, _, _, _, _, _, _, _, _, _, _, _, _, _, _, _, _, _, _, _, _, _, _, _, _, _, _, _, _, _, _, _, _, _, _, _, _, rfl, HCS.out, ?_, left_nil HRW.out HIS.out, srch_nil _ _⟩
      refine HF0.out.more ((Below.refl _ _).alloc (by have := HF0.out.glt; omega) _) ?_
      exact World.ownsRow_made w3 _ _ (by have := HF0.out.glt; omega) (by unfold maxLen; omega) (by simp [size_madeCells])
  · rintro a' wr ⟨b, g, c, had, m, vr, u8, u9, u10, u11, u12, u13, u14, u15, u16, u17, u18, u19, u20, u21, u22, u23, u24, u25, u26, u27, u28, u29, u30, u31, u32, u33, u34, u35, u36, u37, u38, u39, u40, u41, u42, u43, u44, u45, u46, u47, u48, rfl, hcs, hfc, hlf, hsr⟩
    have HCS := Lib.hid hcs
    have HF := Lib.hid hfc
    have HLF := Lib.hid hlf
    have HSR := Lib.hid hsr
    have hN32 : (crL L).length ≤ 32 := (row_is HL.out hcs).few
    have hoL : (opn (crL L).length had).length ≤ 32 := by
      unfold opn
      exact Nat.le_trans (List.length_filter_le _ _) (by rw [List.length_range]; exact hN32)
    have H32 := Lib.hid (show ∀ j ∈ opn (crL L).length had, j < 32 from fun j hj => by have := (opn_mem.1 hj).1; omega)
    clear hcs hfc hlf hsr
    by_cases h0 : opn (crL L).length had = []
    · have HD := Lib.hid (HSR.out.done h0)
      have b0 : (((opn (crL L).length had).length : Int) == 0) = true := by rw [h0]; rfl
      clear h0
      go_wp2
      simp only [Exit.jump]
      go_ret2
      refine ⟨_, by rw [fndB_yes (show Fnd L from ⟨HCS.out, HD.out.2.2⟩)]; rfl, ?_, HF.out.bel⟩
      unfold fndO fndL
      rw [fndB_yes (show Fnd L from ⟨HCS.out, HD.out.2.2⟩), if_pos rfl, ← HD.out.2.1]
      exact HF.out.ro.mono (by have := HF.out.lo_; have := HF.out.bg; omega)
    · have HNE := Lib.hid h0
      have b0 : (((opn (crL L).length had).length : Int) == 0) = false := by
        cases hh : opn (crL L).length had with
        | nil => exact absurd hh h0
        | cons x l => simp; omega
      clear h0
      go_wp2_with fail
      refine (indexF_i (some ⟨g, 0, none⟩) c (opn (crL L).length had) m b wr (by
        obtain ⟨_, _, e, _, _, h3, _⟩ := HF.out.op.slice
        have e1 := (Value.slice.inj e).1
        rw [e1]; exact h3) (by omega) H32.out HLF.out.ok HF.out.mt).mono ?_
      rintro r w2 ⟨⟨v, rfl, hv⟩, hb⟩
      have HF2 := Lib.hid (HF.out.below hb)
      clear hb HF
      rcases hv with ⟨rfl, hn⟩ | ⟨k, i, rfl, hk, hi0, hf⟩
      · have HNF := Lib.hid (show ¬ Fnd L from fun q => Srch.stuck HNE.out (HLF.out.none hn) q.2)
        clear hn
        go_wp2
        simp only [Exit.jump]
        go_ret2
        exact find_none HNF.out HF2.out.bel
      · have HK := Lib.hid hk
        have HNX := Lib.hid (HLF.out.hit hk hi0 hf)
        have HI32 := Lib.hid (H32.out i (List.mem_of_getElem? hk))
        have hkl : k < (opn (crL L).length had).length := (List.getElem?_eq_some_iff.1 hk).1
        have HKL := Lib.hid hkl
        clear hk hi0 hf
        have hlt' : (k : Int) < ((opn (crL L).length had).length : Int) := by omega
        have h0' : (0 : Int) ≤ (k : Int) := by omega
        have hneg : ¬ (k : Int) < 0 := by omega
        have c0 := HF2.out.cell HK.out
        have HAT := Lib.hid (show Rn.At Hi.encI (w2.alloc (.cells #[.int .i64 ((i : Int) + 1)] 3)) (some ⟨w2.heap.size, 0, none⟩) [(i : Int) + 1] from Rn.At.new w2 ((i : Int) + 1) #[.int .i64 ((i : Int) + 1)] rfl 3 rfl)
        have HHL := Lib.hid (show (up had).length ≤ 32 from by rw [up_len]; have := HSR.out.le; omega)
        go_wp2_with (at_builtin; refine Rn.append_row Hi.encI vtI rfl _ _ rfl rfl (HF2.out.ro.alloc _) _ _ [(i : Int) + 1] rfl rfl HAT.out ?c1 ?c2 ?_)
        case c1 => have := HHL.out; simp; omega
        case c2 => have := HF2.out.glt; simp; omega
        intro v' w3 ho3 hb3 hs3
        have HF3 := Lib.hid (show FC w b g c v' (opn (crL L).length had) (had ++ [i]) m w3 from HF2.out.more (((Below.refl _ _).alloc (by have := HF2.out.glt; omega) _).trans hb3) (by rw [up_snoc]; exact ho3))
        clear ho3 hb3 hs3 c0 HAT
        go_wp2
        refine wp_region_noPanic ?_
        refine region_z 8 (fun W => FC w b g c v' (opn (crL L).length had) (had ++ [i]) m W) 7 1000 rfl (by kernel_rfl) (by exact HF3.out.drew) (fun hHeld => ?_)
        refine take_d [6, 7] 0 37 (.agg (matA m)) rfl rfl (by kernel_rfl) (by kernel_rfl) (by kernel_rfl) (by kernel_rfl) (fun _ _ _ h => h) (yields_mat rfl 36 (.tmp 4) rfl b rfl 36 m (fun W hW => hW.mt) Try.underlying36 (matInfo m)) hHeld ?_
        simp only [put_laws]
        refine take_d [3, 4, 5, 6, 7] 1 38 (.slice (some ⟨g, 0, none⟩) (opn (crL L).length had).length c) rfl rfl (by kernel_rfl) (by kernel_rfl) (by kernel_rfl) (by kernel_rfl) (fun _ _ _ h => h) (Or.inl ⟨by rfl, by intro W hW; clear hW; go_simp⟩) hHeld ?_
        simp only [put_laws]
        refine take_d [3, 4, 5, 6, 7] 2 39 (.int .i64 (k : Nat)) rfl rfl (by kernel_rfl) (by kernel_rfl) (by kernel_rfl) (by kernel_rfl) (fun _ _ _ h => h) (Or.inl ⟨by rfl, by intro W hW; clear hW; go_simp⟩) hHeld ?_
        simp only [put_laws]
        refine take_d [4, 5, 6, 7] 3 40 (.pointer (some ⟨g, k, none⟩)) rfl rfl (by kernel_rfl) (by kernel_rfl) (by kernel_rfl) (by kernel_rfl) (fun _ _ _ h => h) (Or.inl ⟨by rfl, by intro W hW; have g0 := hlt'; have g1 := h0'; clear hW; go_simp⟩) hHeld ?_
        simp only [put_laws]
        refine take_d [5, 6, 7] 4 41 (.int .i64 ((i : Int) + 1)) rfl rfl (by kernel_rfl) (by kernel_rfl) (by kernel_rfl) (by kernel_rfl) (fun _ _ _ h => h) (Or.inl ⟨by rfl, by intro W hW; have c0 := hW.cell HK.out; clear hW; go_simp⟩) hHeld ?_
        simp only [put_laws]
        refine anyZ_ready (rs := [5]) (by kernel_rfl) (by simp) ?_
        refine AllZ.cons rfl (fun K hK => ?_) AllZ.nil
        go_simp
        refine (node_j i _ HI32.out).mono ?_
        rintro e w4 ⟨rfl, hb⟩
        try go_simp
        have hPrev := hHeld
        have hHeld := hHeld.below hb
        clear hPrev
        refine hK.out _ _ hHeld (fun hHeld => ?_)
        clear hK K
        refine anyZ_ready (rs := [6]) (by kernel_rfl) (by simp) ?_
        refine AllZ.cons rfl (fun K hK => ?_) AllZ.nil
        go_simp
        refine (cut_in m i _ HLF.out.ok HI32.out).mono ?_
        rintro e w5 ⟨rfl, hb⟩
        try go_simp
        have hPrev := hHeld
        have hHeld := hHeld.below hb
        clear hPrev
        refine hK.out _ _ hHeld (fun hHeld => ?_)
        clear hK K
        refine anyZ_ready (rs := [7]) (by kernel_rfl) (by simp) ?_
        refine AllZ.last rfl rfl (fun K hK => ?_)
        refine step_store_mat rfl 36 (.tmp 4) (.tmp 43) rfl rfl b m (Mm.cut m i) 36 rfl rfl hHeld.mt (matInfo _) ?_
        have HF7 := Lib.hid (hHeld.cut (m' := Mm.cut m i))
        refine hK.out _ _ ?_
        clear hK K hHeld
        refine anyZ_done (by kernel_rfl) ?_ _
        refine NoPanic.normal ?_
        generalize World.setRow _ b (matA (Mm.cut m i)) = w7 at HF7 ⊢
        go_wp2_with fail
        refine (HF7.out.del HK.out).mono ?_
        rintro r w8 ⟨rfl, hf8⟩
        have HF8 := Lib.hid hf8
        clear hf8
        have HOE := Lib.hid (opn_erase HK.out)
        go_wp2
        have HLE := Lib.hid (show ((opn (crL L).length had).eraseIdx k).length = (opn (crL L).length had).length - 1 from List.length_eraseIdx_of_lt HKL.out)
        go_step3
        refine ⟨rfl, ⟨b, g, c, had ++ [i], Mm.cut m i, v', _, _, _, _, _, _, _, _, _, _, _, _, _, _, _, _, _, _, _, _, _, _, _, _, _, _, _, _, _, _, _, _, _, _, _, _, _, _, _, _, _, by rw [← HOE.out], HCS.out, by rw [← HOE.out]; exact HF8.out, HLF.out.cut HI32.out, HSR.out.step HNX.out⟩, ?_⟩
        show ((opn (crL L).length had).eraseIdx k).length < (opn (crL L).length had).length
        have := HLE.out
        have := HKL.out
        omega

end Go.Proofs.Ytaonepbongbhoaa.Jd
