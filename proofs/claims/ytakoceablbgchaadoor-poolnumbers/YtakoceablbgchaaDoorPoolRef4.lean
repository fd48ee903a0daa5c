/-
  The contract of the document's own Collect of pools.
-/
import Derived.Test.YtakoceablbgchaaDoorPoolRef3
namespace Go.Proofs.YtakoceablbgchaaDoor
open Go.RowKit
attribute [local go_sem ↓] Go.wp_at_zero Go.wp_at_succ
theorem src_val (p : Pl) (v : Int) (w : World) (hp : p.Ok) (h : goV (Po.next p) = v) : Calls Tryd.prog 58 #[.agg (poolA p)] w fun e w' => e = .returned (.int .i64 v) ∧ Below w.heap.size w w' := by
  have := source_any p w hp
  rw [h] at this; exact this
def RCollRel (p : Pl) (w : World) (l i : Value) (wr : World) : Prop :=
  ∃ (c : Pl) (went : List Int) (v : Value), v = l ∧ i = .int .i64 (goV (Po.next c)) ∧ CSt p 38 w c v went wr
theorem rless_val' (x k : Nat) (w : World) (hx : x < 18446744073709551616) (hk : k < 64) :
    Calls Tryd.prog 56 #[.int .u64 x, .int .i64 (k : Nat)] w fun e w' => e = .returned (.int .u64 (Sm.less x (k : Nat) : Nat)) ∧ w = w' := rless_any x (k : Nat) w hx (by omega) (by omega)
set_option maxHeartbeats 4000000 in
set_option maxRecDepth 100000 in
theorem rcollect_any (p : Pl) (w : World) (hp : p.Ok) : Calls Tryd.prog 34 #[.agg (poolA p)] w (CollPost p w) := by
  obtain ⟨i0, hi, hz0, hz1, hz2⟩ := info_parts int_info
  have hz := (zero_of_info zero_rpool_info).1
  have H0 := Lib.hid (show CSt p 38 w p (.slice none 0 0) [] _ from ⟨qst_first p 38 w, ownI_nil _ _, hp, rfl, rfl, coll_len p hp⟩)
  clear hp
  go_enter Tryd.func34, Tryd.ntmps34
  go_wp2_with (refine load_pool rfl 38 (.tmp 1) rfl w.heap.size p 38 rfl _ H0.out.st.po Tryd.underlying38 rfl rpool_info ?_)
  refine (source_any p _ H0.out.ok).mono ?_
  rintro e w1 ⟨rfl, hb1⟩
  have H1 := Lib.hid (H0.out.below hb1)
  clear hb1 H0
  generalize hG : goV (Po.next p) = G0
  have HG := Lib.hid hG
  clear hG
  go_wp2
  go_loopw [4, 5] (RCollRel p w) (fun _ _ wr => doneOf w wr)
  case atStart => exact ⟨p, [], _, rfl, by rw [HG.out], H1.out⟩
  case round =>
    obtain ⟨c, went, v, rfl, rfl, hst⟩ := hrel
    have HS := Lib.hid hst
    clear hst
    cases hn : Po.next c with
    | none =>
      have HC := Lib.hid (Po.collect_none hn)
      rw [show goV none = -1 from rfl]
      clear hn
      go_wp2_with (first
        | (refine load_pool rfl 38 (.tmp 1) rfl w.heap.size c 38 rfl _ HS.out.st.po Tryd.underlying38 rfl rpool_info ?_)
        | (refine store_pool rfl 38 (.tmp 2) (.tmp 32) rfl rfl (w.heap.size + 1) _ c 38 rfl rfl HS.out.st.re rpool_info ?_))
      refine bodyPost_ret (results_pool rfl _ _ (w.heap.size + 1) 38 c _ v rfl rfl (HS.out.st.tell c).re Tryd.underlying38 rfl rpool_info) rfl ?_
      refine ⟨v, ?_, ?_, (HS.out.st.tell c).bel⟩
      · rw [← HS.out.res, HC.out]
      · rw [← HS.out.list, HC.out, List.append_nil]
        exact HS.out.row.setRow _ (by omega)
    | some s =>
      have hs := (Po.next_spec hn).1
      have hlen : went.length ≤ 64 := by have := HS.out.len; rw [← HS.out.list, List.length_append] at this; omega
      have HC := Lib.hid (Po.collect_some HS.out.ok.done hn)
      have HD := Lib.hid (Po.count_less HS.out.ok.done (by omega) (Po.next_spec hn).2.1)
      have HM := Lib.hid (show doneOf w wr = Sm.count c.done from doneOf_st HS.out.st)
      rw [show goV (some s) = (s : Int) from rfl]
      clear hn
      have hid := HS.out.st.po.id_ s hs
      have hre := HS.out.st.re.lt
      go_wp2_with (at_builtin; refine wpList_append_own _ rfl _ _ 48 rfl (w.heap.size + 2) 3 i0 (.int .i64 0) 1 8 Tryd.underlying48 hi hz0 hz1 hz2 rfl (by decide) _ _ _ rfl (World.ownsRow.alloc HS.out.row _) ⟨wr.heap.size, 0, none⟩ 1 1 [.int .i64 (c.ids s)] rfl rfl ?c1 ?c2 ?c3 ?c4 ?c5 ?_)
      case c1 =>
        intro j u hj
        match j, hj with
        | 0, hj => simp at hj; subst hj; simp [Addr.add]
      case c2 => intro u hu; simp at hu; subst hu; rfl
      case c3 => unfold maxLen; omega
      case c4 => omega
      case c5 => simp; omega
      intro v' w2 hown' hgrow _
      have HO := Lib.hid (show OwnI w2 (w.heap.size + 2) v' (went ++ [c.ids s]) by unfold OwnI; rw [List.length_append, List.map_append]; exact hown')
      have hb2 : Below (w.heap.size + 2) wr w2 := ((Below.refl (w.heap.size + 2) wr).alloc (by omega) _).grown hgrow (by simp; omega) (fun k hk => (World.ownsRow.lt HS.out.row k hk).1)
      have H2 := Lib.hid (HS.out.st.below2 hb2)
      have HOk := Lib.hid HS.out.ok
      have HR := Lib.hid HS.out.res
      have HL := Lib.hid HS.out.list
      have HLn := Lib.hid HS.out.len
      clear hown' hgrow hb2 HS hid
      go_wp2_with (refine load_m rfl 35 (.tmp 17) rfl w.heap.size c 38 rfl _ H2.out.po Tryd.underlying35 rfl rmat_info ?_)
      refine (rcut_in c.m s _ HOk.out.m hs).mono ?_
      rintro e w3 ⟨rfl, hb3⟩
      have H3 := Lib.hid (H2.out.below hb3)
      have HO3 := Lib.hid (HO.out.below hb3 (Nat.le_refl _))
      clear hb3 H2 HO
      go_wp2_with (refine store_mQ rfl 35 (.tmp 21) (.tmp 20) rfl rfl w _ _ (Mm.cut c.m s) 38 rfl rfl H3.out rmat_info ?_; intro w4 h4 _ k4; have H4 := Lib.hid h4; have HO4 := Lib.hid (HO3.out.same (b := w.heap.size) (by omega) k4); have c4 := h4.po.done_; have f4 := h4.po.frozen 66; clear h4 k4)
      refine (rless_val' c.done s _ HOk.out.done (by omega)).mono ?_
      rintro e w' ⟨rfl, rfl⟩
      have H5 := Lib.hid (H4.out.put_done (Sm.less c.done (s : Nat)))
      have c5 := H5.out.po.id_ s hs
      have f5 := H5.out.po.frozen (67 + s)
      have H6 := Lib.hid (H5.out.put_id s hs 0)
      have H7 := Lib.hid (show QSt (Po.going c s) 38 w zeroP _ from H6.out)
      have HO7 := Lib.hid ((HO4.out.setCell ⟨w.heap.size, 66, none⟩ (.int .u64 (Sm.less c.done (s : Nat) : Nat)) (by simp)).setCell ⟨w.heap.size, 67 + s, none⟩ (.int .i64 0) (by simp))
      go_wp2_with (refine load_pool rfl 38 (.tmp 1) rfl w.heap.size (Po.going c s) 38 rfl _ H7.out.po Tryd.underlying38 rfl rpool_info ?_)
      generalize (w4.setCell ⟨w.heap.size, 66, none⟩ (.int .u64 (Sm.less c.done (s : Nat) : Nat))).setCell ⟨w.heap.size, 67 + s, none⟩ (.int .i64 0) = w5 at *
      refine (source_any (Po.going c s) _ (going_ok HOk.out s)).mono ?_
      rintro e w6 ⟨rfl, hb6⟩
      have H8 := Lib.hid (H7.out.below hb6)
      have HO8 := Lib.hid (HO7.out.below hb6 (Nat.le_refl _))
      clear hb6 H7 HO7 H6 H5 c5 f5
      go_wp2
      refine ⟨⟨Po.going c s, went ++ [c.ids s], v', rfl, rfl, H8.out, HO8.out, going_ok HOk.out s, ?_, ?_, HLn.out⟩, ?_⟩
      · rw [← HR.out, HC.out]
      · rw [← HL.out, HC.out, List.append_assoc]; rfl
      · rw [HM.out, doneOf_st H8.out]
        have := HD.out
        show Sm.count (Sm.less c.done (s : Nat)) < _
        omega
end Go.Proofs.YtakoceablbgchaaDoor
