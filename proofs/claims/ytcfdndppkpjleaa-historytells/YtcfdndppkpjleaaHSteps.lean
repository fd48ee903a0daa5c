/-
  The contract of steps: what was done at the events of a map's numbers, by rising variables.
-/
import Derived.Test.YtcfdndppkpjleaaHSort
import Derived.Test.YtcfdndppkpjleaaHStepM
namespace Go.Proofs.Ytcfdndppkpjleaa.Hi
open Go.RowKit
open Tx (i64p right Sp)
open Az
theorem NR.ne {W : World} {b r n cnt g : Nat} {f : Int → Option Nat} {left : Int → Bool} {c : Array Value} {t : TypeId} {fr : Nat × Nat} (h : NR W b r n f left cnt) (hg : W.heap[g]? = some (.cells c t fr)) : b ≠ g ∧ r ≠ g := by
  obtain ⟨D, sz, l, ⟨es, clock, since, seen, c0, h1, _, _, _, h2, _⟩, _⟩ := h
  exact ⟨fun e => (by subst e; rw [h1] at hg; cases hg), fun e => (by subst e; rw [h2] at hg; cases hg)⟩
theorem step_append_vars {t e : TypeId} (T : Tx.VT t e) {ops : Array Oper} {o : Oper} {a : Act} {w : World} {K : Act → World → Prop} {Q : Exit → Act → World → Prop} {E : Prop}
    (hg : o.guard = none) (s x : Operand) (hop : o.op = Op.call { callee := Callee.builtin Builtin.append, args := #[s, x], argTypes := #[t, t] }) {base : Nat} {v : Value} {L : List Sp} (hs : a.eval s = v) (hown : Tx.OwnVars w base e v L)
    (A : Option Addr) (c : Nat) (M : List Sp) {m : Nat} (hm : M.length = m) (hx : a.eval x = .slice A m c) (hM : Tx.VarsAt w A M) (hlen : L.length + M.length ≤ 1000) (hbase : base ≤ w.heap.size)
    (hK : ∀ v' w', Tx.OwnVars w' base e v' (L ++ M) → w.grownBy w' v.ownBlock → K (a.put o.dst v') w') :
    if Region.wanted o (yielded ops a.tmps) = true then Oper.wp Try.prog o a w K Q else E := by
  have hw : Region.wanted o (yielded ops a.tmps) = true := by simp [Region.wanted, hg]
  rw [if_pos hw]
  subst hm
  obtain ⟨v', w', hr, h2, h3⟩ := Tx.run_append_vars T o.type hown c hM hlen hbase
  unfold Oper.wp
  simp [execOp, hop, resolve, invoke, builtin, hs, hx, hr, Result.andThen]
  exact hK v' w' h2 h3
theorem vars_blk {w : World} {b : Nat} {s : Sp} {t : TypeId} (h : Rp.Blk w b (Tx.stepA s) t) (hs : s.ok) : Tx.VarsAt w (some ⟨b, 0, none⟩) [s] :=
  ⟨fun _ => ⟨_, rfl, fun j u hu => by
    have hadd : (⟨b, 0, none⟩ : Addr).add j = ⟨b, j, none⟩ := by unfold Addr.add; split <;> simp_all
    rw [hadd, cell_of_row _ b j _ t (0, 0) h]
    simpa [Tx.flat, Tx.cellsOf, Tx.stepA] using hu⟩, fun x hx => by simp at hx; subst hx; exact hs⟩
theorem vars_grown {W w' : World} {base : Nat} {v : Value} {S : List Sp} {e : TypeId} (h : Tx.OwnVars W base e v S) (hg : W.grownBy w' v.ownBlock) (hb : base ≤ W.heap.size) : Below base W w' :=
  (Below.refl _ _).grown hg hb (fun k hk => (World.ownsRow.lt h.row k hk).1)
theorem vars_cells {W : World} {base : Nat} {t : TypeId} {v : Value} {S : List Sp} (h : Tx.OwnVars W base t v S) {g : Nat} (hg : v.ownBlock = some g) : ∃ c, W.heap[g]? = some (.cells c t (0, 0)) := by
  rcases h.row.2 with ⟨rfl, _⟩ | ⟨g', cap, cur, rfl, _, hh, _⟩
  · cases hg
  · obtain rfl : g' = g := Option.some.inj hg
    exact ⟨cur, hh⟩
/-- the row that grows, the map that is gone through, the events. -/
structure SSt (w : World) (A : Option Addr) (L : List Ev) (b r n : Nat) (f : Int → Option Nat) (left : Int → Bool) (cnt : Nat) (v : Value) (S : List Sp) (W : World) : Prop where
  own : Tx.OwnVars W w.heap.size 106 v S
  nr : NR W b r n f left cnt
  h : Rn.At encE W A L
  bel : Below w.heap.size w W
section
variable {w : World} {A : Option Addr} {L : List Ev} {b r n : Nat} {f : Int → Option Nat} {left : Int → Bool} {cnt : Nat} {v : Value} {S : List Sp}
theorem SSt.below {W W' : World} (h : SSt w A L b r n f left cnt v S W) (hb : Below W.heap.size W W') : SSt w A L b r n f left cnt v S W' :=
  ⟨h.own.below hb (Nat.le_refl _), h.nr.below hb, h.h.below hb (Nat.le_refl _), h.bel.trans (hb.mono h.bel.size)⟩
theorem SSt.drew {W : World} (h : SSt w A L b r n f left cnt v S W) : SSt w A L b r n f left cnt v S W.drew := h.below (Below.refl _ _).drew
/-- behind the append. -/
theorem SSt.grown {W w' : World} {v' : Value} {S' : List Sp} (h : SSt w A L b r n f left cnt v S W) (h0 : Rn.At encE w A L) (ho : Tx.OwnVars w' w.heap.size 106 v' S') (hg : W.grownBy w' v.ownBlock) : SSt w A L b r n f left cnt v' S' w' := by
  have hb := vars_grown h.own hg h.bel.size
  have hne : ∀ g, v.ownBlock = some g → b ≠ g ∧ r ≠ g := fun g e => by
    obtain ⟨c, hc⟩ := vars_cells h.own e
    exact h.nr.ne hc
  exact ⟨ho, h.nr.kept hg (fun e => (hne b e.symm).1 rfl) (fun e => (hne r e.symm).2 rfl), h0.below (h.bel.trans hb) (Nat.le_refl _), h.bel.trans hb⟩
/-- the step of the range. -/
theorem SSt.next {W w' : World} {left' : Int → Bool} {cnt' : Nat} (h : SSt w A L b r n f left cnt v S W) (h0 : Rn.At encE w A L) (hr : NR w' b r n f left' cnt') (hg : W.grownBy w' (some r)) (hlt : w.heap.size ≤ r) : SSt w A L b r n f left' cnt' v S w' := by
  have hb : Below w.heap.size W w' := (Below.refl _ _).grown hg h.bel.size (fun k hk => by have := Option.some.inj hk; omega)
  refine ⟨⟨World.ownsRow.kept (row := some r) h.own.row hg ?_, h.own.ok⟩, hr, h0.below (h.bel.trans hb) (Nat.le_refl _), h.bel.trans hb⟩
  cases hv : v.ownBlock with
  | none => exact .inl rfl
  | some g =>
    obtain ⟨c, hc⟩ := vars_cells h.own hv
    exact .inr (fun e => (h.nr.ne hc).2 (Option.some.inj e).symm)
end
def SRel (w : World) (A : Option Addr) (L : List Ev) (b r n : Nat) (f : Int → Option Nat) (v : Value) (wr : World) : Prop := ∃ left cnt S, SSt w A L b r n f left cnt v S wr ∧ S.Perm (Tx.rise (gl L f left) 64) ∧ (∀ x, left x = true → (f x).isSome = true) ∧ ∃ g n' cap, v = .slice (some ⟨g, 0, none⟩) n' cap
theorem vars_lit {W : World} {base : Nat} {t : TypeId} {v : Value} {S : List Sp} (h : Tx.OwnVars W base t v S) (hp : 0 < S.length) : ∃ g n' cap, v = .slice (some ⟨g, 0, none⟩) n' cap := by
  rcases h.row.2 with ⟨rfl, h0⟩ | ⟨g', cap, cur, rfl, _⟩
  · omega
  · exact ⟨_, _, _, rfl⟩
theorem own_lit {W : World} {base : Nat} {v : Value} {S : List Sp} {L : List Ev} {f : Int → Option Nat} {left : Int → Bool} (h : S.Perm (Tx.rise (gl L f left) 64)) (_ : Tx.OwnVars W base 106 v S) : S.length ≤ 64 := by
  rw [h.length_eq]; exact Tx.rise_len _ _
set_option maxRecDepth 100000 in
set_option maxHeartbeats 4000000 in
theorem steps_any (A : Option Addr) (c : Nat) (L : List Ev) (b n sz : Nat) (f : Int → Option Nat) (w : World) (h : Rn.At encE w A L) (hok : ∀ e ∈ L, e.ok) (_ : L.length ≤ 2000) (hm : NM w b n sz f) (hf : FitL L f) (hsz : sz ≤ 4096) :
    Calls Try.prog 35 #[.slice A L.length c, .map (some b)] w fun r w' => ∃ v, r = .returned v ∧ Tx.OwnVars w' w.heap.size 106 v (stepsF L f) ∧ Below w.heap.size w w' := by
  have H := Lib.hid h
  have HM := Lib.hid hm
  have HF := Lib.hid hf
  have HOK := Lib.hid hok
  have HSZ := Lib.hid hsz
  obtain ⟨i0, hi, hz0, hz1, hz2⟩ := info_parts Tx.step_info
  clear h hm hf hok
  go_enter Try.func35, Try.ntmps35
  go_wp2_with (first | (at_len; refine wpList_lenM rfl (.tmp 8) rfl b n sz f rfl HM.out ?_) | refine wpList_make_own _ rfl _ _ 65 rfl w.heap.size 106 i0 _ 4 Try.underlying65 hi hz0 hz1 .i64 .i64 (sz : Nat) sz rfl rfl rfl (by rw [hz2]; have := HSZ.out; omega) (by have := HSZ.out; unfold maxLen; omega) (Nat.le_refl _) ?_)
  intro w1 ho1 hg1
  have HO1 := Lib.hid (show Tx.OwnVars w1 w.heap.size 106 (.slice (some ⟨w.heap.size, 0, none⟩) 0 sz) [] from ⟨ho1, by simp⟩)
  have HB1 := Lib.hid (show Below w.heap.size w w1 from (Below.refl _ _).grown hg1 (Nat.le_refl _) (fun k hk => by cases hk))
  have HS1 := Lib.hid (show w.heap.size < w1.heap.size from (World.ownsRow.lt ho1 _ rfl).2)
  clear ho1 hg1
  go_wp2_with (at_range; refine wpList_rangeM rfl _ rfl b n sz f rfl (HM.out.below HB1.out) ?_; intro w2 cnt0 hr2 hb2 hs2)
  have HS2 := Lib.hid (show SSt w A L b w1.heap.size n f (fun x => (f x).isSome) cnt0 (.slice (some ⟨w.heap.size, 0, none⟩) 0 sz) [] w2 from ⟨HO1.out.below hb2 (Nat.le_refl _), hr2, H.out.below (HB1.out.trans (hb2.mono HB1.out.size)) (Nat.le_refl _), HB1.out.trans (hb2.mono HB1.out.size)⟩)
  clear hr2 hb2 hs2 HO1
  have HR := Lib.hid HS1.out
  clear HS1 HB1

  go_frame
  go_loopw [5] (SRel w A L b w1.heap.size n f) (fun _ wr => wr.rangeLeft b w1.heap.size)
  case atStart => exact ⟨_, _, _, HS2.out, by rw [gl_first], fun x hx => hx, _, _, _, rfl⟩
  case round =>
    obtain ⟨left, cnt, S, hst, hpm, hlf, hlit⟩ := hrel
    have HLIT := Lib.hid hlit
    clear hlit
    have HSW := Lib.hid hst
    have HP := Lib.hid hpm
    have HLF0 := Lib.hid hlf
    clear hst hpm hlf
    go_wp2_with (at_next; refine wpList_nextM rfl _ rfl b w1.heap.size n f left cnt rfl HSW.out.nr HLF0.out ?_ ?_)
    · intro hl0
      have HL0 := Lib.hid hl0
      clear hl0
      have hp := HP.out
      rw [gl_last HL0.out] at hp
      have HPF := Lib.hid hp
      have HL64 := Lib.hid (own_lit HP.out HSW.out.own)
      clear hp
      obtain ⟨g, n', cap, rfl⟩ := HLIT.out
      go_wp2_with fail
      refine (sort_steps HSW.out.own HL64.out).mono ?_
      rintro r w4 ⟨rfl, M, p1, p2, ho, hg⟩
      have HB4 := Lib.hid (HSW.out.bel.trans (vars_grown HSW.out.own hg HSW.out.bel.size))
      rw [sorted_steps HF.out HPF.out p1 p2] at ho
      have HO := Lib.hid ho
      clear ho hg p1 p2
      go_wp2
      go_ret
      exact ⟨_, rfl, HO.out, HB4.out⟩
    · intro x k w3 cnt1 hlx hfx hr3 hlt3 hg3 hs3 hen
      have hft := HF.out x k hfx
      have he : L[k]? = some L[k] := List.getElem?_eq_getElem hft.2.2
      generalize hE : L[k] = e at he
      obtain ⟨ad, rfl, _⟩ := atE H.out he
      have HE := Lib.hid he
      have HKB := Lib.hid (show k < L.length from hft.2.2)
      have HKN := Lib.hid (show (k : Int) < (L.length : Int) from by omega)
      have HST := Lib.hid (show stOf L x k = ⟨x, e.k, e.n, decide (e.kd = 2)⟩ from by unfold stOf; rw [he])
      have HSO := Lib.hid (show (⟨x, e.k, e.n, decide (e.kd = 2)⟩ : Sp).ok from by rw [← HST.out]; exact steps_ok HF.out HOK.out hfx)
      have HEQ := Lib.hid (show (e.kd == 2) = decide (e.kd = 2) from by rw [Bool.eq_iff_iff]; simp)
      have HSL := Lib.hid (own_lit HP.out HSW.out.own)
      have HPM := Lib.hid (gl_step HF.out HP.out hlx hfx)
      have HLF := Lib.hid (show ∀ z, (left z && !decide (z = x)) = true → (f z).isSome = true from fun z hz => HLF0.out z (by simp at hz; exact hz.1))
      have HLTT := Lib.hid hlt3
      have HS3 := Lib.hid (HSW.out.next H.out hr3 hg3 (by have := HR.out; omega))
      clear hft he hE hlx hfx hr3 hlt3 hg3 hs3
      go_wp2
      refine wp_region_noPanic ?_
      refine region_z 17 (fun W => SSt w (some ad) L b w1.heap.size n f (fun z => left z && !decide (z = x)) cnt1 u5 S W) 15 1000 rfl (by kernel_rfl) (by exact HS3.out.drew) (fun hHeld => ?_)
      refine take_d [15, 16] 0 18 (u5) rfl rfl (by kernel_rfl) (by kernel_rfl) (by kernel_rfl) (by kernel_rfl) (fun _ _ _ h => h) (Or.inl ⟨by rfl, by intro W hW; clear hW; go_simp⟩) hHeld ?_
      simp only [put_laws]
      refine take_d [13, 14, 15, 16] 1 19 (.int .i64 x) rfl rfl (by kernel_rfl) (by kernel_rfl) (by kernel_rfl) (by kernel_rfl) (fun _ _ _ h => h) (Or.inl ⟨by rfl, by intro W hW; clear hW; go_simp⟩) hHeld ?_
      simp only [put_laws]
      refine take_d [4, 5, 6, 13, 14, 15, 16] 2 20 (.slice (some ad) L.length c) rfl rfl (by kernel_rfl) (by kernel_rfl) (by kernel_rfl) (by kernel_rfl) (fun _ _ _ h => h) (Or.inl ⟨by rfl, by intro W hW; clear hW; go_simp⟩) hHeld ?_
      simp only [put_laws]
      refine take_d [4, 5, 6, 13, 14, 15, 16] 3 21 (.int .i64 (k : Nat)) rfl rfl (by kernel_rfl) (by kernel_rfl) (by kernel_rfl) (by kernel_rfl) (fun _ _ _ h => h) (Or.inl ⟨by rfl, by intro W hW; clear hW; go_simp⟩) hHeld ?_
      simp only [put_laws]
      refine take_d [5, 6, 13, 14, 15, 16] 4 22 (.pointer (some (ad.add (k * 5)))) rfl rfl (by kernel_rfl) (by kernel_rfl) (by kernel_rfl) (by kernel_rfl) (fun _ _ _ h => h) (Or.inl ⟨by rfl, by intro W hW; have hk := HKB.out; have hk2 := HKN.out; clear hW; go_simp⟩) hHeld ?_
      simp only [put_laws]
      refine take_d [6, 13, 14, 15, 16] 5 23 (.pointer (some ⟨(ad.add (k * 5)).block, (ad.add (k * 5)).off + 3, none⟩)) rfl rfl (by kernel_rfl) (by kernel_rfl) (by kernel_rfl) (by kernel_rfl) (fun _ _ _ h => h) (Or.inl ⟨by rfl, by intro W hW; clear hW; go_simp⟩) hHeld ?_
      simp only [put_laws]
      refine take_d [13, 14, 15, 16] 6 24 (.agg (#[.int .i64 e.k, .int .i64 e.n])) rfl rfl (by kernel_rfl) (by kernel_rfl) (by kernel_rfl) (by kernel_rfl) (fun _ _ _ h => h) (Or.inl ⟨by rfl, by intro W hW; have hh := atE hW.h HE.out; obtain ⟨ad2, e2, hh⟩ := hh; have e2 := Option.some.inj e2; subst e2; obtain ⟨c0, c1, c2, c3, c4⟩ := hh; clear hW; go_simp⟩) hHeld ?_
      simp only [put_laws]
      refine take_d [9, 10, 11, 12, 13, 14, 15, 16] 7 25 (.slice (some ad) L.length c) rfl rfl (by kernel_rfl) (by kernel_rfl) (by kernel_rfl) (by kernel_rfl) (fun _ _ _ h => h) (Or.inl ⟨by rfl, by intro W hW; clear hW; go_simp⟩) hHeld ?_
      simp only [put_laws]
      refine take_d [9, 10, 11, 12, 13, 14, 15, 16] 8 26 (.int .i64 (k : Nat)) rfl rfl (by kernel_rfl) (by kernel_rfl) (by kernel_rfl) (by kernel_rfl) (fun _ _ _ h => h) (Or.inl ⟨by rfl, by intro W hW; clear hW; go_simp⟩) hHeld ?_
      simp only [put_laws]
      refine take_d [10, 11, 12, 13, 14, 15, 16] 9 27 (.pointer (some (ad.add (k * 5)))) rfl rfl (by kernel_rfl) (by kernel_rfl) (by kernel_rfl) (by kernel_rfl) (fun _ _ _ h => h) (Or.inl ⟨by rfl, by intro W hW; have hk := HKB.out; have hk2 := HKN.out; clear hW; go_simp⟩) hHeld ?_
      simp only [put_laws]
      refine take_d [11, 12, 13, 14, 15, 16] 10 28 (.pointer (some (ad.add (k * 5)))) rfl rfl (by kernel_rfl) (by kernel_rfl) (by kernel_rfl) (by kernel_rfl) (fun _ _ _ h => h) (Or.inl ⟨by rfl, by intro W hW; clear hW; go_simp⟩) hHeld ?_
      simp only [put_laws]
      refine take_d [12, 13, 14, 15, 16] 11 29 (.int .i64 e.kd) rfl rfl (by kernel_rfl) (by kernel_rfl) (by kernel_rfl) (by kernel_rfl) (fun _ _ _ h => h) (Or.inl ⟨by rfl, by intro W hW; have hh := atE hW.h HE.out; obtain ⟨ad2, e2, hh⟩ := hh; have e2 := Option.some.inj e2; subst e2; obtain ⟨c0, c1, c2, c3, c4⟩ := hh; clear hW; go_simp⟩) hHeld ?_
      simp only [put_laws]
      refine take_d [13, 14, 15, 16] 12 30 (.bool (decide (e.kd = 2))) rfl rfl (by kernel_rfl) (by kernel_rfl) (by kernel_rfl) (by kernel_rfl) (fun _ _ _ h => h) (Or.inl ⟨by rfl, by intro W hW; have hq := HEQ.out; clear hW; go_simp⟩) hHeld ?_
      simp only [put_laws]
      refine take_d [14, 15, 16] 13 31 (.agg (#[.int .i64 x, .int .i64 e.k, .int .i64 e.n, .bool (decide (e.kd = 2))])) rfl rfl (by kernel_rfl) (by kernel_rfl) (by kernel_rfl) (by kernel_rfl) (fun _ _ _ h => h) (Or.inl ⟨by rfl, by intro W hW; clear hW; go_simp⟩) hHeld ?_
      simp only [put_laws]
      refine anyZ_ready (rs := [14]) (by kernel_rfl) (by simp) ?_
      refine AllZ.cons rfl (fun K hK => ?_) AllZ.nil
      go_simp
      have hN : Rp.Blk ((w3.alloc (.cells #[.int .i64 x, .int .i64 e.k, .int .i64 e.n, .bool (decide (e.kd = 2))] 106)).drew) (w3.heap.size) #[.int .i64 x, .int .i64 e.k, .int .i64 e.n, .bool (decide (e.kd = 2))] 106 := Rp.Blk.new (w3.drew) #[.int .i64 x, .int .i64 e.k, .int .i64 e.n, .bool (decide (e.kd = 2))] 106
      have hPrev := hHeld
      have hHeld := hHeld.below (show Below _ _ ((w3.alloc (.cells #[.int .i64 x, .int .i64 e.k, .int .i64 e.n, .bool (decide (e.kd = 2))] 106)).drew) from Rn.below_new (w3.drew) (.cells #[.int .i64 x, .int .i64 e.k, .int .i64 e.n, .bool (decide (e.kd = 2))] 106))
      generalize (w3.alloc (.cells #[.int .i64 x, .int .i64 e.k, .int .i64 e.n, .bool (decide (e.kd = 2))] 106)).drew = w4 at *
      clear hPrev
      refine hK.out _ _ hHeld (fun hHeld => ?_)
      clear hK K
      refine anyZ_ready (rs := [15]) (by kernel_rfl) (by simp) ?_
      refine AllZ.last rfl rfl (fun K hK => ?_)
      refine step_append_vars Tx.lvt rfl (.tmp 18) (.tmp 32) rfl (v := u5) (base := w.heap.size) rfl hHeld.own _ _ [⟨x, e.k, e.n, decide (e.kd = 2)⟩] rfl rfl (vars_blk (s := ⟨x, e.k, e.n, decide (e.kd = 2)⟩) hN HSO.out) (by have := HSL.out; simp; omega) hHeld.bel.size ?_
      intro v' w5 ho5 hg5
      have HS5 := Lib.hid (hHeld.grown H.out ho5 hg5)
      refine hK.out _ _ ?_
      clear hK K hHeld ho5 hg5 hN
      refine anyZ_ready (rs := [16]) (by kernel_rfl) (by simp) ?_
      refine AllZ.last rfl rfl (fun K hK => ?_)
      go_simp
      refine hK.out _ _ ?_
      clear hK K
      refine anyZ_done (by kernel_rfl) ?_ _
      refine NoPanic.normal ?_
      go_wp2
      go_roundw
      case rel => exact ⟨_, _, _, HS5.out, by rw [← HST.out]; exact HPM.out, HLF.out, vars_lit HS5.out.own (by simp)⟩
      case measure =>
        rw [HS5.out.nr.left_eq, HSW.out.nr.left_eq]; exact HLTT.out
end Go.Proofs.Ytcfdndppkpjleaa.Hi
