/-
  The contract of topo.relay.
-/
import Derived.Test.YtakoceablbgchaaDoorTopoSpread
namespace Go.Proofs.YtakoceablbgchaaDoor
open Go.RowKit
attribute [local go_sem ↓] Go.wp_at_zero Go.wp_at_succ
structure RlSt (w : World) (q : Od.O) (W : World) : Prop where
  od : OrdAt W w.heap.size q 29
  res : OrdAt W (w.heap.size + 1) zeroO 29
  bel : Below w.heap.size w W
theorem RlSt.below {w W W' : World} {q : Od.O} (h : RlSt w q W) (hb : Below W.heap.size W W') : RlSt w q W' := ⟨h.od.below hb, h.res.below hb, h.bel.trans (hb.mono h.bel.size)⟩
theorem rlSt_first (w : World) (o : Od.O) : RlSt w o ((w.alloc (.cells (ordA o) 29)).alloc (.cells (Array.replicate 32 (Value.int .i64 0)) 29)) := by
  refine ⟨(ordAt_new _ _ _).alloc _, ?_, ((Below.refl _ _).alloc (Nat.le_refl _) _).alloc (by simp) _⟩
  have := zeroO_lit (w.alloc (.cells (ordA o) 29)) 29
  simpa using this
theorem RlSt.set {w W : World} {q : Od.O} (h : RlSt w q W) (k : Nat) (v : Int) : RlSt w (Od.upd q k v) (W.setCell ⟨w.heap.size, k, none⟩ (.int .i64 v)) :=
  ⟨ordAt_cell h.od, h.res.setCell _ _ (by simp), h.bel.setCell (by simp) _⟩
theorem RlSt.ext {w W : World} {q r : Od.O} (h : RlSt w q W) (e : q = r) : RlSt w r W := e ▸ h
/-- the set of the places of the first k nodes of a row. -/
def hadTo (o : Od.O) (L : List Nat) (k : Nat) : Nat := Sm.ofL 0 ((L.take k).map o)
theorem hadTo_lt (o : Od.O) (L : List Nat) (k : Nat) : hadTo o L k < 18446744073709551616 := Sm.ofL_lt _ (by decide)
theorem hadTo_step {o : Od.O} {L : List Nat} {k : Nat} (hk : k < L.length) : Sm.add (hadTo o L k) (o L[k]) = hadTo o L (k + 1) := by
  unfold hadTo
  rw [List.take_succ_eq_append_getElem hk, List.map_append, Sm.ofL_append]
  rfl
def both (o : Od.O) (H F : Nat) : List Nat := Od.standing o H ++ Od.standing o F
theorem both_mem {o : Od.O} (h : Od.Right o) {H F i : Nat} : i ∈ both o H F ↔ i < 32 ∧ (H ||| F).testBit i = true := by
  unfold both
  rw [List.mem_append, Od.standing_mem h, Od.standing_mem h, Nat.testBit_or, Bool.or_eq_true]
  constructor
  · rintro (⟨h1, h2⟩ | ⟨h1, h2⟩)
    · exact ⟨h1, .inl h2⟩
    · exact ⟨h1, .inr h2⟩
  · rintro ⟨h1, h2 | h2⟩
    · exact .inl ⟨h1, h2⟩
    · exact .inr ⟨h1, h2⟩
theorem both_lt {o : Od.O} (h : Od.Right o) {H F k : Nat} (hk : k < (both o H F).length) : (both o H F)[k] < 32 := ((both_mem h).1 (List.getElem_mem hk)).1
theorem filter64 (p : Nat → Bool) (h : ∀ j, 32 ≤ j → p j = false) : (List.range 64).filter p = (List.range 32).filter p := by
  have e : List.range 64 = List.range 32 ++ (List.range' 32 32) := by decide
  rw [e, List.filter_append]
  have : (List.range' 32 32).filter p = [] := by
    rw [List.filter_eq_nil_iff]
    intro a ha
    rw [List.mem_range'_1] at ha
    rw [h a ha.1]; simp
  rw [this, List.append_nil]
theorem had_items {o : Od.O} (h : Od.Right o) (H F : Nat) : Sm.items (hadTo o (both o H F) (both o H F).length) = Od.placesOf o (H ||| F) := by
  have ht : ∀ j, (hadTo o (both o H F) (both o H F).length).testBit j = (decide (j < 32) && (H ||| F).testBit (Od.at_ o j)) := fun j => by
    by_cases hj : j < 64
    · unfold hadTo
      rw [List.take_of_length_le (Nat.le_refl _), Sm.ofL_test _ _ _ hj, Nat.zero_testBit, Bool.false_or, Bool.eq_iff_iff, decide_eq_true_iff, List.mem_map, Bool.and_eq_true, decide_eq_true_iff]
      constructor
      · rintro ⟨i, hi, e⟩
        have hm := (both_mem h).1 hi
        have := h.at_eq hm.1 e
        rw [this.2]
        exact ⟨this.1, hm.2⟩
      · rintro ⟨h1, h2⟩
        have hs := Od.at_spec h h1
        exact ⟨_, (both_mem h).2 ⟨hs.1, h2⟩, hs.2⟩
    · rw [Sm.test_big (hadTo_lt _ _ _) (by omega), decide_eq_false (by omega)]; rfl
  unfold Sm.items Od.placesOf
  rw [filter64 _ fun j hj => by rw [ht, decide_eq_false (by omega)]; rfl]
  apply List.filter_congr
  intro a ha
  rw [List.mem_range] at ha
  rw [ht, decide_eq_true ha]; rfl
theorem grown_ord {W W' : World} {row : Option Nat} {g t : Nat} {q : Od.O} (h : OrdAt W g q t) (hg : W.grownBy W' row) (hne : some g ≠ row) : OrdAt W' g q t := (hg.block g h.lt hne).trans h
def RlOne (o : Od.O) (w : World) (L : List Nat) (v : Value) (base : Nat) (had i : Value) (wr : World) : Prop :=
  ∃ k : Nat, k ≤ L.length ∧ i = .int .i64 k ∧ had = .int .u64 (hadTo o L k : Nat) ∧ Own wr base v L ∧ RlSt w o wr
def RlTwo (o : Od.O) (w : World) (L P : List Nat) (v u : Value) (base base' : Nat) (i : Value) (wr : World) : Prop :=
  ∃ k : Nat, k ≤ P.length ∧ i = .int .i64 k ∧ Own wr base v L ∧ Own wr base' u P ∧ RlSt w (Od.give o ((L.zip P).take k)) wr
set_option maxHeartbeats 2000000 in
set_option maxRecDepth 100000 in
theorem relay_any (o : Od.O) (H F b : Nat) (w : World) (hr : Od.Right o) (hH : H < 4294967296) (hF : F < 4294967296) (hap : Od.Apart H F) (hb : b < 32) (hbF : F.testBit b = true) (hT : TabAt w) :
    Calls Tryd.prog 69 #[.agg (ordA o), .int .u64 H, .int .u64 F] w fun e w' => e = .returned (.agg (ordA (Od.relay o H F))) ∧ Below w.heap.size w w' := by
  obtain ⟨i0, hi, hz0, hz1, hz2⟩ := info_parts int_info
  have HR := Lib.hid hr
  have HT := Lib.hid hT
  have HA := Lib.hid hap
  have H0 := Lib.hid (rlSt_first w o)
  have hpos : 0 < (Od.standing o F).length := List.length_pos_of_mem ((Od.standing_mem hr).2 ⟨hb, hbF⟩)
  have hl1 := Od.standing_len o H
  have hl2 := Od.standing_len o F
  clear hr hT hap hbF
  go_enter Tryd.func69, Tryd.ntmps69
  go_wp2_with fail
  refine wp_region_noPanic ?_
  refine region_start (S := RlSt w o) 8 rfl (by kernel_rfl) (H0.out.below (below_drew _)) (fun hHeld => ?_)
  refine take_at 0 13 (.agg (ordA o)) rfl rfl (by kernel_rfl) (by kernel_rfl) (by kernel_rfl) (fun _ _ _ h => h) (yields_row (by rfl) 29 (.tmp 3) rfl (w.heap.size) rfl 29 (ordA o) (fun W h => h.od) Tryd.underlying29 (ordInfo _)) hHeld ?_
  simp only [put_laws]
  refine take_at 1 14 (.int .u64 (H : Nat)) rfl rfl (by kernel_rfl) (by kernel_rfl) (by kernel_rfl) (fun _ _ _ h => h) (Or.inl ⟨by rfl, by intro W hW; clear hW; go_simp⟩) hHeld ?_
  simp only [put_laws]
  refine take_at 3 16 (.agg (ordA o)) rfl rfl (by kernel_rfl) (by kernel_rfl) (by kernel_rfl) (fun _ _ _ h => h) (yields_row (by rfl) 29 (.tmp 3) rfl (w.heap.size) rfl 29 (ordA o) (fun W h => h.od) Tryd.underlying29 (ordInfo _)) hHeld ?_
  simp only [put_laws]
  refine take_at 4 17 (.int .u64 (F : Nat)) rfl rfl (by kernel_rfl) (by kernel_rfl) (by kernel_rfl) (fun _ _ _ h => h) (Or.inl ⟨by rfl, by intro W hW; clear hW; go_simp⟩) hHeld ?_
  simp only [put_laws]
  refine wpAnyH_ready (rs := [2]) (by kernel_rfl) (by simp) ?_
  refine AllReadyH.cons rfl (fun K hK => ?_) AllReadyH.nil
  go_simp
  refine (standing_any o H _ HR.out hH).mono ?_
  rintro e w1 ⟨v1, rfl, ho1, hb1⟩
  try go_simp
  have hHeld := hHeld.below hb1
  refine hK.out _ _ hHeld (fun hHeld => ?_)
  clear hK K
  refine wpAnyH_ready (rs := [5]) (by kernel_rfl) (by simp) ?_
  refine AllReadyH.cons rfl (fun K hK => ?_) AllReadyH.nil
  go_simp
  refine (standing_any o F _ HR.out hF).mono ?_
  rintro e w2 ⟨v2, rfl, ho2, hb2⟩
  try go_simp
  have hHeld := hHeld.below hb2
  refine hK.out _ _ hHeld (fun hHeld => ?_)
  clear hK K
  have HO1 := Lib.hid ((ho1.below hb2 (Nat.le_refl _)).mono (base' := w.heap.size + 2) (by simp))
  have hs1 := hb1.size
  have hs2 := hb2.size
  have hs0 : w.heap.size + 2 ≤ w2.heap.size := by
    have e : w.heap.size + 2 ≤ w1.heap.size := by simpa using hs1
    omega
  obtain ⟨g2, c2, hv2, _, _⟩ := World.ownsRow.form ho2 hpos
  subst hv2
  have HN := Lib.hid (World.ownsRow.cells ho2 (g := g2) rfl)
  clear ho1 ho2 hb1 hb2 hs1 hs2
  refine wpAnyH_ready (rs := [6]) (by kernel_rfl) (by simp) ?_
  refine AllReadyH.cons rfl (fun K hK => ?_) AllReadyH.nil
  refine step_append_lies _ (by rfl) (.tmp 15) (.tmp 18) 48 (by rfl) (w.heap.size + 2) 3 i0 (.int .i64 0) 1 8 Tryd.underlying48 hi hz0 hz1 hz2 rfl (by decide) v1 _ _ (by rfl) HO1.out ⟨g2, 0, none⟩ (Od.standing o F).length c2 (vals (Od.standing o F)) (by rfl) (by simp [vals]) HN.out ?c1 hpos ?c2 (by omega) hs0 _ rfl ?_
  case c1 =>
    intro u hu
    simp only [vals, List.mem_map] at hu
    obtain ⟨k, _, rfl⟩ := hu
    rfl
  case c2 => unfold maxLen; omega
  intro g cap w3 hown hgrow hat hlt3
  have HW := Lib.hid (show Own w3 (w.heap.size + 2) (.slice (some ⟨g, 0, none⟩) ((Od.standing o H).length + (Od.standing o F).length) cap) (both o H F) from by
    unfold Own both
    have e : vals (Od.standing o H ++ Od.standing o F) = vals (Od.standing o H) ++ vals (Od.standing o F) := by simp [vals]
    rw [e, List.length_append]
    exact hown)
  have hnot : ∀ k, k < w.heap.size + 2 → some k ≠ v1.ownBlock := fun k hk e => by
    have := (World.ownsRow.lt HO1.out k e.symm).1
    omega
  have hHeld : RlSt w o w3 := ⟨grown_ord hHeld.od hgrow (hnot _ (by omega)), grown_ord hHeld.res hgrow (hnot _ (by omega)), hHeld.bel.grown hgrow hHeld.bel.size (fun k hk => by
    have := (World.ownsRow.lt HO1.out k hk).1
    omega)⟩
  clear hown hgrow hat hlt3 HN
  try go_simp
  refine hK.out _ _ hHeld (fun hHeld => ?_)
  clear hK K
  refine take_at 7 7 (.slice (some ⟨g, 0, none⟩) ((Od.standing o H).length + (Od.standing o F).length) cap) rfl rfl (by kernel_rfl) (by kernel_rfl) (by kernel_rfl) (fun _ _ _ h => h) (Or.inl ⟨by rfl, by intro W hW; clear hW; go_simp⟩) hHeld ?_
  simp only [put_laws]
  refine wpAnyH_done (by kernel_rfl) ?_ _
  refine NoPanic.normal ?_
  have HS3 := Lib.hid hHeld
  clear hHeld HO1
  have hlen : (both o H F).length = (Od.standing o H).length + (Od.standing o F).length := List.length_append
  have hlP : (both o H F).length = (Od.placesOf o (H ||| F)).length := Od.both_len HR.out HA.out
  have HLm := Lib.hid (show ∀ k (h : k < (both o H F).length), (both o H F)[k] < 32 from fun k h => both_lt HR.out h)
  have HIt := Lib.hid (had_items HR.out H F)
  have HRl := Lib.hid (show Od.give o ((both o H F).zip (Od.placesOf o (H ||| F))) = Od.relay o H F from rfl)
  generalize hN : (Od.standing o H).length + (Od.standing o F).length = N at *
  have hN64 : N ≤ 64 := by omega
  generalize hL : both o H F = L at *
  have HLen := Lib.hid hlen
  have HLP := Lib.hid hlP
  clear hL hN hlen hlP
  go_wp2
  go_loopw [8, 22] (RlOne o w L (.slice (some ⟨g, 0, none⟩) N cap) (w.heap.size + 2)) (fun _ i _ => 64 - (intOf i).toNat)
  case atStart => exact ⟨0, by omega, rfl, rfl, HW.out, HS3.out⟩
  case round =>
    obtain ⟨k, hk, rfl, rfl, hown, hst⟩ := hrel
    have HOw := Lib.hid hown
    have HSr := Lib.hid hst
    have hq := hadTo_lt o L k
    have hkN : k ≤ N := by rw [← HLen.out]; exact hk
    clear hk
    by_cases hlt : k < N
    · have hlt' : k < L.length := by rw [HLen.out]; exact hlt
      obtain ⟨g', hA, hc⟩ := hown.at_ hlt'
      injection hA with hA
      injection hA with hA
      subst hA
      have ha := HLm.out k hlt'
      have HSt := Lib.hid (hadTo_step (o := o) hlt')
      have hpl := HR.out.pl ha
      have hd := hst.od.cell _ ha
      rw [hpl.1] at hd
      have hp32 := hpl.2.1
      have HE := Lib.hid hpl.1
      clear hown hst hpl
      generalize L[k] = a at *
      rw [HE.out] at HSt
      clear hlt'
      go_wp2_with (go_at_call 45; refine (with_val _ _ _ _ hq (by omega) HSt.out).mono ?_; rintro e w' ⟨rfl, rfl⟩)
      refine ⟨⟨k + 1, by have := HLen.out; omega, by go_num, rfl, HOw.out, HSr.out⟩, by simp [intOf]; omega⟩
    · obtain rfl : N = k := by omega
      clear hown hst
      go_wp2_with fail
      refine (items_any _ _ hq (HT.out.below HSr.out.bel HT.out.lt)).mono ?_
      rintro e w4 ⟨u, rfl, hown4, hb4⟩
      rw [← HLen.out, HIt.out] at hown4
      have HU := Lib.hid (show Own w4 wr.heap.size u (Od.placesOf o (H ||| F)) from hown4)
      have HO4 := Lib.hid (HOw.out.below hb4 (Nat.le_refl _))
      have HS4 := Lib.hid (HSr.out.below hb4)
      have hwr : w.heap.size + 1 < wr.heap.size := HSr.out.res.lt
      clear hown4 hb4
      obtain ⟨A, c, hv, hc1, hc2⟩ := HU.out.shape
      subst hv
      have HPm := Lib.hid (show ∀ k (h : k < (Od.placesOf o (H ||| F)).length), (Od.placesOf o (H ||| F))[k] < 32 from fun k h => (Od.places_mem.1 (List.getElem_mem h)).1)
      generalize hP : Od.placesOf o (H ||| F) = P at *
      have hP64 : P.length ≤ 64 := by have := HLP.out; have := HLen.out; omega
      clear hP
      go_wp2
      go_loopw [35] (RlTwo o w L P (.slice (some ⟨g, 0, none⟩) N cap) (.slice A P.length c) (w.heap.size + 2) wr.heap.size) (fun i _ => 64 - (intOf i).toNat)
      case atStart => exact ⟨0, by omega, rfl, HO4.out, HU.out, HS4.out⟩
      case round =>
        obtain ⟨n, hn, rfl, hownL, hownP, hst⟩ := hrel
        have HL2 := Lib.hid hownL
        have HP2 := Lib.hid hownP
        have HS2 := Lib.hid hst
        by_cases hnl : n < P.length
        · obtain ⟨g', hA, hcL⟩ := hownL.at_ (k := n) (by rw [HLP.out]; exact hnl)
          injection hA with hA
          injection hA with hA
          subst hA
          obtain ⟨gp, hA, hcP⟩ := hownP.at_ hnl
          subst hA
          have hp32 := HPm.out n hnl
          have hnN : n < N := by have := HLP.out; have := HLen.out; omega
          have ha := HLm.out n (by rw [HLP.out]; exact hnl)
          have HGv := Lib.hid (Od.give_step (o := o) (L := L) (P := P) (k := n) (List.getElem?_eq_getElem (by rw [HLP.out]; exact hnl)) (List.getElem?_eq_getElem hnl))
          generalize L[n]'(by rw [HLP.out]; exact hnl) = a at *
          generalize P[n] = p at *
          have hd := hst.od.cell a ha
          have hf := hst.od.frozen a
          clear hownL hownP hst
          go_wp2
          refine ⟨⟨n + 1, by omega, by go_num, HL2.out.setCell _ _ (by simp), HP2.out.setCell _ _ (by simp; omega), (HS2.out.set a p).ext HGv.out⟩, by simp [intOf]; omega⟩
        · obtain rfl : n = P.length := by omega
          have HE := Lib.hid (show RlSt w (Od.relay o H F) wr from HS2.out.ext (by rw [← HRl.out, List.take_of_length_le (by rw [List.length_zip, HLP.out]; exact Nat.min_le_left _ _)]))
          clear hownL hownP hst
          go_wp2_with (first
            | (refine wpList_load_row rfl 29 (.tmp 3) rfl w.heap.size rfl 29 (ordA (Od.relay o H F)) (0, 0) _ HE.out.od Tryd.underlying29 rfl (ordInfo _) ?_)
            | (refine wpList_store_row rfl 29 (.tmp 6) (.tmp 47) rfl (w.heap.size + 1) (ordA (Od.relay o H F)) rfl rfl 29 _ HE.out.res (ordInfo _) (by rw [ordA_size, ordA_size]) (ordA_one _) ?_))
          refine bodyPost_ret (results_cell_row rfl _ _ (w.heap.size + 1) 29 (ordA (Od.relay o H F)) (0, 0) _ rfl (setRow_heap _ _ _ _ _ _ HE.out.res) Tryd.underlying29 rfl (ordInfo _)) rfl ⟨rfl, ?_⟩
          exact setRow_below HE.out.bel (by omega)
end Go.Proofs.YtakoceablbgchaaDoor
