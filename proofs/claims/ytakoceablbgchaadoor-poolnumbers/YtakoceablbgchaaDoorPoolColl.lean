/-
  The contract of pool.Collect.
-/
import Derived.Test.YtakoceablbgchaaDoorPoolGo
namespace Go.Proofs.YtakoceablbgchaaDoor
open Go.RowKit
attribute [local go_sem ↓] Go.wp_at_zero Go.wp_at_succ
/-- v is a row of these whole numbers, made behind base. -/
def OwnI (w : World) (base : Nat) (v : Value) (l : List Int) : Prop := w.ownsRow base 3 1 v l.length (l.map (Value.int .i64))
theorem OwnI.below {w w' : World} {base B : Nat} {v : Value} {l : List Int} (h : OwnI w base v l) (hb : Below B w w') (hB : w.heap.size ≤ B) : OwnI w' base v l := by
  refine ⟨h.1, ?_⟩
  rcases h.2 with hn | ⟨g, cap, cur, hv, hbase, hg, rest⟩
  · exact .inl hn
  · have : g < w.heap.size := (Array.getElem?_eq_some_iff.1 hg).1
    exact .inr ⟨g, cap, cur, hv, hbase, (hb.block g (by omega)).trans hg, rest⟩
theorem OwnI.same {w w' : World} {base b : Nat} {v : Value} {l : List Int} (h : OwnI w base v l) (hb : b < base) (hk : ∀ k, k ≠ b → w'.heap[k]? = w.heap[k]?) : OwnI w' base v l := by
  refine ⟨h.1, ?_⟩
  rcases h.2 with hn | ⟨g, cap, cur, hv, hbase, hg, rest⟩
  · exact .inl hn
  · exact .inr ⟨g, cap, cur, hv, hbase, (hk g (by omega)).trans hg, rest⟩
theorem OwnI.setCell {w : World} {base : Nat} {v : Value} {l : List Int} (h : OwnI w base v l) (a : Addr) (u : Value) (ha : a.block < base) : OwnI (w.setCell a u) base v l :=
  h.same ha fun k hk => Below.heap_setCell w a u k hk
theorem OwnI.setRow {w : World} {base b : Nat} {v : Value} {l : List Int} (h : OwnI w base v l) (cs : Array Value) (ha : b < base) : OwnI (w.setRow b cs) base v l :=
  h.same ha fun k hk => setRow_other w b k cs hk
theorem OwnI.mono {w : World} {base base' : Nat} {v : Value} {l : List Int} (h : OwnI w base v l) (hb : base' ≤ base) : OwnI w base' v l := by
  refine ⟨h.1, ?_⟩
  rcases h.2 with hn | ⟨g, cap, cur, hv, hbase, hg, rest⟩
  · exact .inl hn
  · exact .inr ⟨g, cap, cur, hv, by omega, hg, rest⟩
theorem ownI_nil (w : World) (base : Nat) : OwnI w base (.slice none 0 0) [] := World.ownsRow_nil _ _ _ _
theorem OwnI.shape {w : World} {base : Nat} {v : Value} {l : List Int} (h : OwnI w base v l) : ∃ A c, v = .slice A l.length c ∧ l.length ≤ c ∧ c ≤ 9223372036854775807 := by
  rcases h.2 with ⟨rfl, h0⟩ | ⟨g, cap, cur, rfl, _, _, h1, h2, _⟩
  · exact ⟨none, 0, by rw [h0], by omega, by omega⟩
  · unfold maxLen at h2
    exact ⟨_, _, rfl, h1, by omega⟩
theorem OwnI.at_ {w : World} {base : Nat} {A : Option Addr} {n c : Nat} {l : List Int} (h : OwnI w base (.slice A n c) l) {k : Nat} (hk : k < l.length) :
    ∃ g, A = some ⟨g, 0, none⟩ ∧ w.cell? ⟨g, k, none⟩ = some (.int .i64 l[k]) := by
  obtain ⟨g, cap, hv, _, hlt⟩ := h.form (by omega)
  have hA : A = some ⟨g, 0, none⟩ := by injection hv
  subst hA
  refine ⟨g, rfl, ?_⟩
  have := h.cells (g := g) rfl k (.int .i64 l[k]) (by simp [List.getElem?_eq_getElem hk])
  rwa [addr_at] at this
theorem QSt.below2 {p q : Pl} {t : Nat} {w W W' : World} (h : QSt p t w q W) (hb : Below (w.heap.size + 2) W W') : QSt p t w q W' :=
  ⟨(hb.block _ (by omega)).trans h.po, (hb.block _ (by omega)).trans h.re, h.bel.trans (hb.mono (by omega))⟩
theorem going_ok {p : Pl} (hp : p.Ok) (s : Nat) : (Po.going p s).Ok :=
  ⟨hp.size, Mm.cut_ok s hp.m, hp.o, hp.live, Sm.less_lt _ hp.done, fun i hi => by
    show _ ≤ Od.upd p.ids s 0 i ∧ Od.upd p.ids s 0 i ≤ _
    unfold Od.upd
    have := hp.ids i hi
    split <;> omega, hp.count⟩
theorem go_val (p : Pl) (v : Int) (w : World) (hp : p.Ok) (h : goV (Po.next p) = v) : Calls Tryd.prog 41 #[.agg (poolA p)] w fun e w' => e = .returned (.int .i64 v) ∧ Below w.heap.size w w' := by
  have := firstToGo_any p w hp
  rw [h] at this; exact this
def CollPost (p : Pl) (w : World) (e : Ending) (w' : World) : Prop :=
  ∃ v, e = .returned (.tuple #[.agg (poolA (Po.collect p).1), v]) ∧ OwnI w' (w.heap.size + 2) v (Po.collect p).2 ∧ Below w.heap.size w w'
/-- how it stands at the label: what is left to go, and what went. -/
structure CSt (p : Pl) (t : Nat) (w : World) (c : Pl) (l : Value) (went : List Int) (W : World) : Prop where
  st : QSt c t w zeroP W
  row : OwnI W (w.heap.size + 2) l went
  ok : c.Ok
  res : (Po.collect c).1 = (Po.collect p).1
  list : went ++ (Po.collect c).2 = (Po.collect p).2
  len : (Po.collect p).2.length ≤ 64
theorem CSt.below {p c : Pl} {t : Nat} {w W W' : World} {l : Value} {went : List Int} (h : CSt p t w c l went W) (hb : Below W.heap.size W W') : CSt p t w c l went W' :=
  ⟨h.st.below hb, h.row.below hb (Nat.le_refl _), h.ok, h.res, h.list, h.len⟩
def CollJ (p : Pl) (w : World) (a' : Act) (w' : World) : Prop :=
  ∃ (c : Pl) (l : Value) (went : List Int) (u5 u6 u7 u8 u9 u10 u11 u12 u13 u14 u15 u16 u17 u18 u19 u20 u21 u22 u23 u24 u25 u26 u27 u28 u29 u30 u31 : Value),
    a' = { tmps := #[.agg (poolA p), .pointer (some ⟨w.heap.size, 0, none⟩), .pointer (some ⟨w.heap.size + 1, 0, none⟩), .slice none 0 0, l, u5, u6, u7, u8, u9, u10, u11, u12, u13, u14, u15, u16, u17, u18, u19, u20, u21, u22, u23, u24, u25, u26, u27, u28, u29, u30, u31], defers := [] } ∧
    CSt p 31 w c l went w'
theorem less_val' (x k : Nat) (w : World) (hx : x < 18446744073709551616) (hk : k < 64) :
    Calls Tryd.prog 43 #[.int .u64 x, .int .i64 (k : Nat)] w fun e w' => e = .returned (.int .u64 (Sm.less x (k : Nat) : Nat)) ∧ w = w' := less_val x k _ w hx hk rfl
theorem coll_len (p : Pl) (hp : p.Ok) : (Po.collect p).2.length ≤ 64 := Nat.le_trans (Po.collect_len p hp.done) (Sm.items_len p.done)
def doneOf (w : World) (w' : World) : Nat := Sm.count (intOf ((w'.cell? ⟨w.heap.size, 66, none⟩).getD undef)).toNat
theorem doneOf_st {p q : Pl} {t : Nat} {w W : World} (h : QSt p t w q W) : doneOf w W = Sm.count p.done := by unfold doneOf; rw [h.po.done_]; simp [intOf]
set_option maxHeartbeats 4000000 in
set_option maxRecDepth 100000 in
theorem collect_any (p : Pl) (w : World) (hp : p.Ok) : Calls Tryd.prog 15 #[.agg (poolA p)] w (CollPost p w) := by
  obtain ⟨i0, hi, hz0, hz1, hz2⟩ := info_parts int_info
  have hz := (zero_of_info zero_pool_info).1
  have H0 := Lib.hid (show CSt p 31 w p (.slice none 0 0) [] _ from ⟨qst_first p 31 w, ownI_nil _ _, hp, rfl, rfl, coll_len p hp⟩)
  clear hp
  go_enter Tryd.func15, Tryd.ntmps15
  go_wp2
  refine wp_scope_jumps3 0 (CollJ p w) (fun _ w' => doneOf w w') rfl ?_ ?_
  · intro hk
    have HK := Lib.hid hk
    clear hk
    go_wp2
    go_step3
    rename_i hK
    apply hK
    exact HK.out _ _ ⟨p, _, [], _, _, _, _, _, _, _, _, _, _, _, _, _, _, _, _, _, _, _, _, _, _, _, _, _, _, _, rfl, H0.out⟩
  · rintro a' wr ⟨c, l, went, u5, u6, u7, u8, u9, u10, u11, u12, u13, u14, u15, u16, u17, u18, u19, u20, u21, u22, u23, u24, u25, u26, u27, u28, u29, u30, u31, rfl, hst⟩
    have HS := Lib.hid hst
    clear hst
    cases hn : Po.next c with
    | none =>
      have HN := Lib.hid (show goV (Po.next c) = -1 by rw [hn]; rfl)
      have HC := Lib.hid (Po.collect_none hn)
      clear hn
      go_wp2_with (refine load_pool rfl 31 (.tmp 1) rfl w.heap.size c 31 rfl _ HS.out.st.po Tryd.underlying31 rfl pool_info ?_)
      refine (go_val c _ _ HS.out.ok HN.out).mono ?_
      rintro e w1 ⟨rfl, hb1⟩
      have HS1 := Lib.hid (HS.out.below hb1)
      clear hb1 HS
      go_wp2_with (first
        | (refine load_pool rfl 31 (.tmp 1) rfl w.heap.size c 31 rfl _ HS1.out.st.po Tryd.underlying31 rfl pool_info ?_)
        | (refine store_pool rfl 31 (.tmp 2) (.tmp 10) rfl rfl (w.heap.size + 1) _ c 31 rfl rfl HS1.out.st.re pool_info ?_))
      simp only [Exit.jump]
      refine bodyPost_ret (results_pool rfl _ _ (w.heap.size + 1) 31 c _ l rfl rfl (HS1.out.st.tell c).re Tryd.underlying31 rfl pool_info) rfl ?_
      refine ⟨l, ?_, ?_, (HS1.out.st.tell c).bel⟩
      · rw [← HS1.out.res, HC.out]
      · rw [← HS1.out.list, HC.out, List.append_nil]
        exact HS1.out.row.setRow _ (by omega)
    | some s =>
      have hs := (Po.next_spec hn).1
      have hlen : went.length ≤ 64 := by have := HS.out.len; rw [← HS.out.list, List.length_append] at this; omega
      have HN := Lib.hid (show goV (Po.next c) = (s : Int) by rw [hn]; rfl)
      have HC := Lib.hid (Po.collect_some HS.out.ok.done hn)
      have HD := Lib.hid (Po.count_less HS.out.ok.done (by omega) (Po.next_spec hn).2.1)
      have hsn : ((s : Int) == -1) = false := by simp
      clear hn
      go_wp2_with (refine load_pool rfl 31 (.tmp 1) rfl w.heap.size c 31 rfl _ HS.out.st.po Tryd.underlying31 rfl pool_info ?_)
      refine (go_val c _ _ HS.out.ok HN.out).mono ?_
      rintro e w1 ⟨rfl, hb1⟩
      have HS1 := Lib.hid (HS.out.below hb1)
      have HM := Lib.hid (show doneOf w wr = Sm.count c.done from doneOf_st HS.out.st)
      clear hb1 HS
      have hid := HS1.out.st.po.id_ s hs
      have hre := HS1.out.st.re.lt
      go_wp2_with (at_builtin; refine wpList_append_own _ rfl _ _ 48 rfl (w.heap.size + 2) 3 i0 (.int .i64 0) 1 8 Tryd.underlying48 hi hz0 hz1 hz2 rfl (by decide) _ _ _ rfl (World.ownsRow.alloc HS1.out.row _) ⟨w1.heap.size, 0, none⟩ 1 1 [.int .i64 (c.ids s)] rfl rfl ?c1 ?c2 ?c3 ?c4 ?c5 ?_)
      case c1 =>
        intro j u hj
        match j, hj with
        | 0, hj => simp at hj; subst hj; simp [Addr.add]
      case c2 => intro u hu; simp at hu; subst hu; rfl
      case c3 => unfold maxLen; omega
      case c4 => omega
      case c5 => simp; omega
      intro v' w2 hown' hgrow _
      have HO := Lib.hid (show OwnI w2 (w.heap.size + 2) v' (went ++ [c.ids s]) by unfold OwnI; rw [List.length_append, List.map_append]; exact hown')
      have hb2 : Below (w.heap.size + 2) w1 w2 := ((Below.refl (w.heap.size + 2) w1).alloc (by omega) _).grown hgrow (by simp; omega) (fun k hk => (World.ownsRow.lt HS1.out.row k hk).1)
      have H2 := Lib.hid (HS1.out.st.below2 hb2)
      have HOk := Lib.hid HS1.out.ok
      have HR := Lib.hid HS1.out.res
      have HL := Lib.hid HS1.out.list
      have HLn := Lib.hid HS1.out.len
      clear hown' hgrow hb2 HS1 hid
      go_wp2_with (refine load_m rfl 27 (.tmp 19) rfl w.heap.size c 31 rfl _ H2.out.po Tryd.underlying27 rfl mat_info ?_)
      refine (cut_in c.m s _ HOk.out.m hs).mono ?_
      rintro e w3 ⟨rfl, hb3⟩
      have H3 := Lib.hid (H2.out.below hb3)
      have HO3 := Lib.hid (HO.out.below hb3 (Nat.le_refl _))
      clear hb3 H2 HO
      go_wp2_with (refine store_mQ rfl 27 (.tmp 23) (.tmp 22) rfl rfl w _ _ (Mm.cut c.m s) 31 rfl rfl H3.out mat_info ?_; intro w4 h4 _ k4; have H4 := Lib.hid h4; have HO4 := Lib.hid (HO3.out.same (b := w.heap.size) (by omega) k4); have c4 := h4.po.done_; have f4 := h4.po.frozen 66; clear h4 k4)
      refine (less_val' c.done s _ HOk.out.done (by omega)).mono ?_
      rintro e w' ⟨rfl, rfl⟩
      have H5 := Lib.hid (H4.out.put_done (Sm.less c.done (s : Nat)))
      have c5 := H5.out.po.id_ s hs
      have f5 := H5.out.po.frozen (67 + s)
      have H6 := Lib.hid (H5.out.put_id s hs 0)
      go_wp2
      go_step3
      have H7 := Lib.hid (show QSt (Po.going c s) 31 w zeroP _ from H6.out)
      refine ⟨rfl, ⟨Po.going c s, v', went ++ [c.ids s], _, _, _, _, _, _, _, _, _, _, _, _, _, _, _, _, _, _, _, _, _, _, _, _, _, _, _, rfl, ⟨H7.out, (HO4.out.setCell _ _ (by simp)).setCell _ _ (by simp), going_ok HOk.out s, ?_, ?_, HLn.out⟩⟩, ?_⟩
      · rw [← HR.out, HC.out]
      · rw [← HL.out, HC.out, List.append_assoc]; rfl
      · rw [HM.out, doneOf_st H7.out]
        have := HD.out
        show Sm.count (Sm.less c.done (s : Nat)) < _
        omega
end Go.Proofs.YtakoceablbgchaaDoor
