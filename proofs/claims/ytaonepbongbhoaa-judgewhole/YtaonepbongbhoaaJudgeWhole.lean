/-
  JudgeWhole: an order that fits does not fit any more, if one is left out, stands twice, or is one that never was.
-/
import Derived.Test.YtaonepbongbhoaaKQ
import Derived.Test.YtaonepbongbhoaaKC
namespace Go.Proofs.Ytaonepbongbhoaa.Jd
open Go.RowKit
open Az
open Hi (Ev encE crs crL EvArg theirs_any)
theorem del_any {w : World} {base g c : Nat} {L : List Int} {k : Nat} (h : Rn.Own Hi.encI w base 3 (.slice (some ⟨g, 0, none⟩) L.length c) L) (hk : k < L.length) :
    Calls Try.prog 10 #[.slice (some ⟨g, 0, none⟩) L.length c, .int .i64 (k : Nat), .int .i64 ((k : Int) + 1)] w fun e w' => e = .returned (.slice (some ⟨g, 0, none⟩) (L.eraseIdx k).length c) ∧ Rn.Own Hi.encI w' base 3 (.slice (some ⟨g, 0, none⟩) (L.eraseIdx k).length c) (L.eraseIdx k) ∧ Below g w w' := by
  have hc : L.length ≤ c ∧ c ≤ maxLen := by
    obtain ⟨g', c', e, _, _, h1, h2⟩ := own_some h (by omega)
    obtain ⟨_, _, rfl⟩ := Value.slice.inj e
    exact ⟨h1, h2⟩
  have hd := AnyG.slices_Delete_int Try.delI g 0 c k (k + 1) L w (own_holds h) hc.1 (by unfold maxLen at hc; omega) (by omega) (by omega)
  have hle2 : (L.eraseIdx k).length = L.length - 1 := List.length_eraseIdx_of_lt hk
  refine Calls.mono (show Calls Try.prog 10 #[.slice (some ⟨g, 0, none⟩) L.length c, .int .i64 (k : Nat), .int .i64 ((k : Int) + 1)] w _ from hd) ?_
  rintro e w' ⟨rfl, q, rfl⟩
  refine ⟨by rw [hle2]; simp, ?_, del_below (Nat.le_refl _)⟩
  have := own_del (q := q) h hk
  rw [hle2]
  exact this
/-- a row of one's own, made behind n. -/
structure Ow (n : Nat) (v : Value) (L : List Int) (W : World) : Prop where
  own : Rn.Own Hi.encI W n 3 v L
  le : n ≤ W.heap.size
theorem Ow.below {n : Nat} {v : Value} {L : List Int} {W W' : World} (h : Ow n v L W) (hb : Below W.heap.size W W') : Ow n v L W' := ⟨h.own.below hb (Nat.le_refl _), Nat.le_trans h.le hb.size⟩
/-- one that was built. -/
structure On (A : Option Addr) (x : Int) (W : World) : Prop where
  at_ : Rn.At Hi.encI W A [x]
theorem On.below {A : Option Addr} {x : Int} {W W' : World} (h : On A x W) (hb : Below W.heap.size W W') : On A x W' := ⟨at_below h.at_ hb⟩
/-- what JudgeWhole has: the events, the order, the order that lacks one. -/
structure JW (w : World) (B : Option Addr) (L : List Ev) (g : Nat) (o : List Int) (C : Option Addr) (p : List Int) (W : World) : Prop where
  ev : Rn.At encE W B L
  ord : Rn.At Hi.encI W (some ⟨g, 0, none⟩) o
  les : Rn.At Hi.encI W C p
  bel : Below w.heap.size w W
section
variable {w : World} {B : Option Addr} {L : List Ev} {g : Nat} {o : List Int} {C : Option Addr} {p : List Int} {W : World}
theorem JW.below {W' : World} (h : JW w B L g o C p W) (hb : Below W.heap.size W W') : JW w B L g o C p W' := ⟨at_below h.ev hb, at_below h.ord hb, at_below h.les hb, h.bel.trans (hb.mono h.bel.size)⟩
theorem JW.drew (h : JW w B L g o C p W) : JW w B L g o C p W.drew := h.below (Below.refl _ _).drew
theorem JW.cell (h : JW w B L g o C p W) {k : Nat} {x : Int} (hk : o[k]? = some x) : W.cell? ⟨g, k, none⟩ = some (.int .i64 x) := by
  obtain ⟨ad, e, c⟩ := atI h.ord hk
  obtain rfl := Option.some.inj e
  have : (⟨g, 0, none⟩ : Addr).add k = ⟨g, k, none⟩ := by unfold Addr.add; split <;> simp_all
  rwa [this] at c
end
set_option maxRecDepth 100000 in
set_option maxHeartbeats 8000000 in
theorem judgeWhole_walk (A : Option Addr) (n c : Nat) (L : List Ev) (a1 : Nat) (w : World) (h : EvArg w A n c L) (ha1 : a1 ≤ 255) :
    Calls Try.prog 3 #[.slice A n c, .int .u8 (a1 : Nat)] w fun e w' => e = .returned (.bool true) ∧ Below w.heap.size w w' := by
  obtain ⟨rfl, hnc, hcm, hat, hok⟩ := h
  have H := Lib.hid hat
  have HOK := Lib.hid hok
  have hN : (L.length : Int) ≤ 9223372036854775807 := by unfold maxLen at hcm; omega
  clear hat hok hnc hcm
  by_cases hl : L.length ≤ 100
  · have HL := Lib.hid (show L.length ≤ 2000 from by omega)
    have HL3 := Lib.hid (show L.length ≤ 300 from by omega)
    have HLN := Lib.hid (fndO_len HL.out)
    go_enter Try.func3, Try.ntmps3
    go_wp2_with fail
    refine (jalive_any _).mono ?_
    rintro r w1 ⟨rfl, hb1⟩
    have HB1 := Lib.hid hb1
    clear hb1
    go_wp2_with fail
    refine (theirs_any A c L w1 (H.out.below HB1.out (Nat.le_refl _)) HL3.out).mono ?_
    rintro r w2 ⟨B2, d2, rfl, _, _, hat2, hb2⟩
    have HB2 := Lib.hid (HB1.out.trans (hb2.mono HB1.out.size))
    have HA2 := Lib.hid hat2
    clear hat2 hb2 HB1
    go_wp2_with fail
    refine (find_any B2 d2 L w2 HA2.out HOK.out HL.out).mono ?_
    unfold FindPost
    rintro r w3 ⟨v, rfl, hown, hb3⟩
    have HB3 := Lib.hid (HB2.out.trans (hb3.mono HB2.out.size))
    have HA3 := Lib.hid (at_below HA2.out hb3)
    have HOW := Lib.hid hown
    clear hown hb3 HB2 HA2
    cases hfb : fndB L with
    | false =>
      clear hfb
      obtain ⟨A3, d3, rfl, _, _, _, _⟩ := HOW.out.slice
      go_wp2
      go_ret
      exact ⟨rfl, HB3.out⟩
    | true =>
      have HFO := Lib.hid (fndO_yes hfb)
      clear hfb
      obtain ⟨o, ho⟩ : ∃ o, o = fndO L := ⟨_, rfl⟩
      rw [← ho] at HOW HLN
      clear ho HFO
      rcases Nat.eq_zero_or_pos o.length with hz | hz
      · obtain ⟨A3, d3, rfl, _, _, _, _⟩ := HOW.out.slice
        have b0 : ((o.length : Int) == 0) = true := beq_iff_eq.2 (by omega)
        clear hz
        go_wp2
        go_ret
        exact ⟨rfl, HB3.out⟩
      · obtain ⟨g, d3, rfl, hg1, hg2, hg3, hg4⟩ := own_some HOW.out hz
        have hgat : Rn.At Hi.encI w3 (some ⟨g, 0, none⟩) o := by
          obtain ⟨_, _, e, _, _, h3, _⟩ := HOW.out.slice
          rw [(Value.slice.inj e).1]; exact h3
        have HO3 := Lib.hid hgat
        have HGC := Lib.hid (show o.length ≤ d3 ∧ d3 ≤ maxLen from ⟨hg3, hg4⟩)
        have HZ := Lib.hid hz
        have b0 : ((o.length : Int) == 0) = false := beq_eq_false_iff_ne.2 (by omega)
        have hoN : (o.length : Int) ≤ 32 := by have := HLN.out; omega
        clear hgat hg1 hg2 hg3 hg4 HOW
        go_wp2_with fail
        refine (fits_any B2 (some ⟨g, 0, none⟩) d2 d3 L o w3 HA3.out HOK.out HL.out HO3.out HGC.out.1 HGC.out.2 (by have := HLN.out; omega)).mono ?_
        rintro r w4 ⟨rfl, hb4⟩
        have HB4 := Lib.hid (HB3.out.trans (hb4.mono HB3.out.size))
        have HA4 := Lib.hid (at_below HA3.out hb4)
        have HO4 := Lib.hid (at_below HO3.out hb4)
        clear hb4 HB3 HA3 HO3
        cases hft : fitB L o with
        | false =>
          clear hft
          go_wp2
          go_ret
          exact ⟨rfl, HB4.out⟩
        | true =>
          have HFT := Lib.hid ((fitB_iff L o).1 hft)
          clear hft
          obtain ⟨k, hk⟩ : ∃ k : Nat, k = a1 % o.length := ⟨_, rfl⟩
          have hkl : k < o.length := by rw [hk]; exact Nat.mod_lt _ hz
          have HK := Lib.hid hkl
          obtain ⟨x, hx⟩ : ∃ x, o[k]? = some x := ⟨_, List.getElem?_eq_getElem hkl⟩
          have HX := Lib.hid hx
          have hrem : Int.tmod ((a1 : Nat) : Int) (o.length : Int) = (k : Nat) := by
            rw [Int.tmod_eq_emod_of_nonneg (by omega), hk]
            exact (Int.natCast_emod a1 o.length).symm
          have hlt' : (k : Int) < (o.length : Int) := by omega
          have h0 : (0 : Int) ≤ (k : Int) := by omega
          have hne0 : (o.length : Int) ≠ 0 := by omega
          have HREM := Lib.hid hrem
          clear hk hx hkl
          go_wp2_with fail
          refine (iclone_any (some ⟨g, 0, none⟩) d3 o w4 HO4.out (by have := HLN.out; omega)).mono ?_
          rintro r w5 ⟨v5, rfl, ho5, hb5⟩
          obtain ⟨g5, c5, rfl, h51, h52, h53, h54⟩ := own_some ho5 HZ.out
          have HB5 := Lib.hid (HB4.out.trans (hb5.mono HB4.out.size))
          have HA5 := Lib.hid (at_below HA4.out hb5)
          have HO5 := Lib.hid (at_below HO4.out hb5)
          have HW5 := Lib.hid ho5
          have HG5 := Lib.hid (show w4.heap.size ≤ g5 ∧ c5 ≤ maxLen ∧ o.length ≤ c5 from ⟨h51, h54, h53⟩)
          have HE := Lib.hid hb5
          clear ho5 hb5 h51 h52 h53 h54
          go_wp2_with fail
          refine (del_any HW5.out HK.out).mono ?_
          rintro r w6 ⟨rfl, ho6, hb6⟩
          have HLE := Lib.hid (List.length_eraseIdx_of_lt HK.out)
          have hat6 : Rn.At Hi.encI w6 (some ⟨g5, 0, none⟩) (o.eraseIdx k) := by
            obtain ⟨_, _, e, _, _, h3, _⟩ := ho6.slice
            rw [(Value.slice.inj e).1]; exact h3
          have HJ6 := Lib.hid (show JW w B2 L g o (some ⟨g5, 0, none⟩) (o.eraseIdx k) w6 from
            ⟨HA4.out.below (HE.out.trans (hb6.mono HG5.out.1)) (Nat.le_refl _), HO4.out.below (HE.out.trans (hb6.mono HG5.out.1)) (Nat.le_refl _), hat6, HB4.out.trans ((HE.out.trans (hb6.mono HG5.out.1)).mono HB4.out.size)⟩)
          clear ho6 hb6 hat6 HW5 HA5 HO5 HB5 HE HA4 HO4 HB4
          generalize o.eraseIdx k = p at HJ6 HLE ⊢
          have hpN : (p.length : Int) ≤ 32 := by have := HLE.out; omega
          have HPN := Lib.hid (show p.length ≤ c5 ∧ p.length ≤ 100000 ∧ p.length ≠ o.length from by have := HLE.out; have := HG5.out.2.2; have := HLN.out; have := HZ.out; omega)
          go_wp2
          refine wp_region_noPanic ?_
          refine region_z 9 (fun W => Below w6.heap.size w6 W) 9 1000 rfl (by kernel_rfl) (by exact (Below.refl _ _).drew) (fun hHeld => ?_)
          refine take_d [1, 7, 8] 0 48 (.slice (some ⟨g, 0, none⟩) o.length d3) rfl rfl (by kernel_rfl) (by kernel_rfl) (by kernel_rfl) (by kernel_rfl) (fun _ _ _ h => h) (Or.inl ⟨by rfl, by intro W hW; clear hW; go_simp⟩) hHeld ?_
          simp only [put_laws]
          refine take_d [4, 5, 6, 7, 8] 2 50 (.slice (some ⟨g, 0, none⟩) o.length d3) rfl rfl (by kernel_rfl) (by kernel_rfl) (by kernel_rfl) (by kernel_rfl) (fun _ _ _ h => h) (Or.inl ⟨by rfl, by intro W hW; clear hW; go_simp⟩) hHeld ?_
          simp only [put_laws]
          refine take_d [4, 5, 6, 7, 8] 3 51 (.int .i64 (k : Nat)) rfl rfl (by kernel_rfl) (by kernel_rfl) (by kernel_rfl) (by kernel_rfl) (fun _ _ _ h => h) (Or.inl ⟨by rfl, by intro W hW; clear hW; go_simp⟩) hHeld ?_
          simp only [put_laws]
          refine take_d [5, 6, 7, 8] 4 52 (.pointer (some ⟨g, k, none⟩)) rfl rfl (by kernel_rfl) (by kernel_rfl) (by kernel_rfl) (by kernel_rfl) (fun _ _ _ h => h) (Or.inl ⟨by rfl, by intro W hW; have g0 := hlt'; have g1 := h0; clear hW; go_simp⟩) hHeld ?_
          simp only [put_laws]
          refine take_d [6, 7, 8] 5 53 (.int .i64 x) rfl rfl (by kernel_rfl) (by kernel_rfl) (by kernel_rfl) (by kernel_rfl) (fun _ _ _ h => h) (Or.inl ⟨by rfl, by intro W hW; have c0 := (HJ6.out.below hW).cell HX.out; clear hW; go_simp⟩) hHeld ?_
          simp only [put_laws]
          refine anyZ_ready (rs := [1, 6]) (by kernel_rfl) (by simp) ?_
          refine AllZ.cons rfl (fun K hK => ?_) (AllZ.cons rfl (fun K hK => ?_) AllZ.nil)
          · go_simp
            refine (iclone_any (some ⟨g, 0, none⟩) d3 o _ (HJ6.out.below hHeld).ord (by have := HLN.out; omega)).mono ?_
            rintro e w7c ⟨v5, rfl, ho5, hb⟩
            try go_simp
            have hPrev := hHeld
            have hHeld := hHeld.trans (hb.mono hHeld.size)
            have ho5 : Ow w6.heap.size v5 o _ := ⟨ho5.mono hPrev.size, hHeld.size⟩
            clear hPrev
            refine hK.out _ _ hHeld (fun hHeld => ?_)
            clear hK K
            refine anyZ_ready (rs := [6]) (by kernel_rfl) (by simp) ?_
            refine AllZ.cons rfl (fun K hK => ?_) AllZ.nil
            go_simp
            have hN : On (some ⟨w7c.heap.size, 0, none⟩) x ((w7c.alloc (.cells #[.int .i64 x] 3))) := ⟨Rn.At.new (w7c) x #[.int .i64 x] rfl 3 rfl⟩
            have hPrev := hHeld
            have hHeld := hHeld.trans ((show Below _ _ ((w7c.alloc (.cells #[.int .i64 x] 3))) from Rn.below_new (w7c) (.cells #[.int .i64 x] 3)).mono hHeld.size)
            have ho5 := ho5.below (show Below _ _ ((w7c.alloc (.cells #[.int .i64 x] 3))) from Rn.below_new (w7c) (.cells #[.int .i64 x] 3))
            generalize (w7c.alloc (.cells #[.int .i64 x] 3)) = w7 at *
            clear hPrev
            refine hK.out _ _ hHeld (fun hHeld => ?_)
            clear hK K
            refine anyZ_ready (rs := [7]) (by kernel_rfl) (by simp) ?_
            refine AllZ.cons rfl (fun K hK => ?_) AllZ.nil
            refine Rp.step_append_rowG Hi.encI vtI rfl (.tmp 49) (.tmp 54) rfl rfl ho5.own _ _ [x] rfl rfl hN.at_ (by simp) (by have := HLN.out; simp; omega) ho5.le ?_
            intro v10 w8 hr5 hg5 hl5
            have hHeld := hHeld.trans ((Below.refl _ _).grown hg5 ho5.le (fun q hq => (own_fresh ho5.own q hq).1))
            clear hg5 hl5 hN
            refine hK.out _ _ hHeld (fun hHeld => ?_)
            clear hK K
            refine take_d [] 8 10 (v10) rfl rfl (by kernel_rfl) (by kernel_rfl) (by kernel_rfl) (by kernel_rfl) (fun _ _ _ h => h) (Or.inl ⟨by rfl, by intro W hW; clear hW; go_simp⟩) hHeld ?_
            simp only [put_laws]
            refine anyZ_done (by kernel_rfl) ?_ _
            refine NoPanic.normal ?_
            obtain ⟨A10, c10, rfl, h10a, h10b, h10c, _⟩ := hr5.slice
            have HT8 := Lib.hid h10c
            have HT8c := Lib.hid (show (o ++ [x]).length ≤ c10 ∧ c10 ≤ maxLen from ⟨h10a, h10b⟩)
            have HJ8 := Lib.hid (HJ6.out.below hHeld)
            clear hHeld hr5 h10a h10b h10c
            have HTL := Lib.hid (show (o ++ [x]).length ≤ 100000 ∧ (o ++ [x]).length ≠ o.length from by have := HLN.out; rw [List.length_append, List.length_singleton]; omega)
            generalize o ++ [x] = tw at HT8 HT8c HTL ⊢
            have htN : (tw.length : Int) ≤ 100000 := by have := HTL.out.1; omega
            go_wp2_with fail
            refine (iclone_any (some ⟨g, 0, none⟩) d3 o w8 HJ8.out.ord (by have := HLN.out; omega)).mono ?_
            rintro r w9 ⟨v9, rfl, ho9, hb9⟩
            obtain ⟨g9, c9, rfl, h91, h92, h93, h94⟩ := own_some ho9 HZ.out
            have HW9 := Lib.hid ho9
            have HJ9 := Lib.hid (HJ8.out.below hb9)
            have HT9 := Lib.hid (at_below HT8.out hb9)
            have HG9 := Lib.hid (show w8.heap.size ≤ g9 ∧ o.length ≤ c9 ∧ c9 ≤ maxLen from ⟨h91, h93, h94⟩)
            have HB9 := Lib.hid hb9
            have c9a := HW9.out.get HX.out 0 (by decide)
            have f9a := HW9.out.free (k * 1 + 0)
            simp only [Nat.mul_one, Nat.add_zero, List.getElem?_cons_zero] at c9a f9a
            have HP := Lib.hid (HW9.out.put HX.out 0 (by decide) (.int .i64 ((o.length : Int) + 1)) (v' := (o.length : Int) + 1) rfl)
            clear ho9 hb9 h91 h92 h93 h94 HW9
            simp only [Nat.mul_one, Nat.add_zero] at HP
            go_wp2_with fail
            generalize hW10 : World.setCell w9 _ _ = w10 at HP ⊢
            have hb10 : Below g9 w9 w10 := by rw [← hW10]; exact (Below.refl g9 w9).setCell (Nat.le_refl g9) _
            have HJ10 := Lib.hid (show JW w B2 L g o (some ⟨g5, 0, none⟩) p w10 from HJ8.out.below (HB9.out.trans (hb10.mono HG9.out.1)))
            have HT10 := Lib.hid (at_below HT8.out (HB9.out.trans (hb10.mono HG9.out.1)))
            have hat10 : Rn.At Hi.encI w10 (some ⟨g9, 0, none⟩) (o.set k ((o.length : Int) + 1)) := by
              obtain ⟨_, _, e, _, _, h3, _⟩ := HP.out.slice
              rw [(Value.slice.inj e).1]; exact h3
            have HO10 := Lib.hid hat10
            clear hW10 hb10 hat10 HP c9a f9a
            refine (fits_any B2 (some ⟨g5, 0, none⟩) d2 c5 L p w10 HJ10.out.ev HOK.out HL.out HJ10.out.les HPN.out.1 HG5.out.2.1 HPN.out.2.1).mono ?_
            rw [fitB_no (not_short HFT.out HPN.out.2.2)]
            rintro r w11 ⟨rfl, hb⟩
            have HJ11 := Lib.hid (HJ10.out.below hb)
            have HT11 := Lib.hid (at_below HT10.out hb)
            have HO11 := Lib.hid (at_below HO10.out hb)
            clear hb
            go_wp2_with fail
            refine (fits_any B2 A10 d2 c10 L tw w11 HJ11.out.ev HOK.out HL.out HT11.out HT8c.out.1 HT8c.out.2 HTL.out.1).mono ?_
            rw [fitB_no (not_short HFT.out HTL.out.2)]
            rintro r w12 ⟨rfl, hb⟩
            have HJ12 := Lib.hid (HJ11.out.below hb)
            have HO12 := Lib.hid (at_below HO11.out hb)
            clear hb
            have HQ := Lib.hid (fits_any B2 (some ⟨g9, 0, none⟩) d2 c9 L (o.set k ((o.length : Int) + 1)) w12 HJ12.out.ev HOK.out HL.out HO12.out (by rw [List.length_set]; exact HG9.out.2.1) HG9.out.2.2 (by rw [List.length_set]; have := HLN.out; omega))
            rw [List.length_set, fitB_no (not_far (x := (o.length : Int) + 1) (List.mem_of_getElem? (List.getElem?_set_self HK.out)) (by have := HFT.out.len; omega))] at HQ
            go_wp2_with fail
            refine HQ.out.mono ?_
            rintro r w13 ⟨rfl, hb⟩
            have HJ13 := Lib.hid (HJ12.out.below hb)
            clear hb
            go_wp2
            go_ret
            exact ⟨rfl, HJ13.out.bel⟩
          · go_simp
            have hN : On (some ⟨w6.heap.size, 0, none⟩) x ((w6.alloc (.cells #[.int .i64 x] 3)).drew) := ⟨Rn.At.new (w6.drew) x #[.int .i64 x] rfl 3 rfl⟩
            have hPrev := hHeld
            have hHeld := hHeld.trans ((show Below _ _ ((w6.alloc (.cells #[.int .i64 x] 3)).drew) from Rn.below_new (w6.drew) (.cells #[.int .i64 x] 3)).mono hHeld.size)
            generalize (w6.alloc (.cells #[.int .i64 x] 3)).drew = w7 at *
            clear hPrev
            refine hK.out _ _ hHeld (fun hHeld => ?_)
            clear hK K
            refine anyZ_ready (rs := [1]) (by kernel_rfl) (by simp) ?_
            refine AllZ.cons rfl (fun K hK => ?_) AllZ.nil
            go_simp
            refine (iclone_any (some ⟨g, 0, none⟩) d3 o _ (HJ6.out.below hHeld).ord (by have := HLN.out; omega)).mono ?_
            rintro e w7c ⟨v5, rfl, ho5, hb⟩
            try go_simp
            have hPrev := hHeld
            have hHeld := hHeld.trans (hb.mono hHeld.size)
            have ho5 : Ow w6.heap.size v5 o _ := ⟨ho5.mono hPrev.size, hHeld.size⟩
            have hN := hN.below hb
            clear hPrev
            refine hK.out _ _ hHeld (fun hHeld => ?_)
            clear hK K
            refine anyZ_ready (rs := [7]) (by kernel_rfl) (by simp) ?_
            refine AllZ.cons rfl (fun K hK => ?_) AllZ.nil
            refine Rp.step_append_rowG Hi.encI vtI rfl (.tmp 49) (.tmp 54) rfl rfl ho5.own _ _ [x] rfl rfl hN.at_ (by simp) (by have := HLN.out; simp; omega) ho5.le ?_
            intro v10 w8 hr5 hg5 hl5
            have hHeld := hHeld.trans ((Below.refl _ _).grown hg5 ho5.le (fun q hq => (own_fresh ho5.own q hq).1))
            clear hg5 hl5 hN
            refine hK.out _ _ hHeld (fun hHeld => ?_)
            clear hK K
            refine take_d [] 8 10 (v10) rfl rfl (by kernel_rfl) (by kernel_rfl) (by kernel_rfl) (by kernel_rfl) (fun _ _ _ h => h) (Or.inl ⟨by rfl, by intro W hW; clear hW; go_simp⟩) hHeld ?_
            simp only [put_laws]
            refine anyZ_done (by kernel_rfl) ?_ _
            refine NoPanic.normal ?_
            obtain ⟨A10, c10, rfl, h10a, h10b, h10c, _⟩ := hr5.slice
            have HT8 := Lib.hid h10c
            have HT8c := Lib.hid (show (o ++ [x]).length ≤ c10 ∧ c10 ≤ maxLen from ⟨h10a, h10b⟩)
            have HJ8 := Lib.hid (HJ6.out.below hHeld)
            clear hHeld hr5 h10a h10b h10c
            have HTL := Lib.hid (show (o ++ [x]).length ≤ 100000 ∧ (o ++ [x]).length ≠ o.length from by have := HLN.out; rw [List.length_append, List.length_singleton]; omega)
            generalize o ++ [x] = tw at HT8 HT8c HTL ⊢
            have htN : (tw.length : Int) ≤ 100000 := by have := HTL.out.1; omega
            go_wp2_with fail
            refine (iclone_any (some ⟨g, 0, none⟩) d3 o w8 HJ8.out.ord (by have := HLN.out; omega)).mono ?_
            rintro r w9 ⟨v9, rfl, ho9, hb9⟩
            obtain ⟨g9, c9, rfl, h91, h92, h93, h94⟩ := own_some ho9 HZ.out
            have HW9 := Lib.hid ho9
            have HJ9 := Lib.hid (HJ8.out.below hb9)
            have HT9 := Lib.hid (at_below HT8.out hb9)
            have HG9 := Lib.hid (show w8.heap.size ≤ g9 ∧ o.length ≤ c9 ∧ c9 ≤ maxLen from ⟨h91, h93, h94⟩)
            have HB9 := Lib.hid hb9
            have c9a := HW9.out.get HX.out 0 (by decide)
            have f9a := HW9.out.free (k * 1 + 0)
            simp only [Nat.mul_one, Nat.add_zero, List.getElem?_cons_zero] at c9a f9a
            have HP := Lib.hid (HW9.out.put HX.out 0 (by decide) (.int .i64 ((o.length : Int) + 1)) (v' := (o.length : Int) + 1) rfl)
            clear ho9 hb9 h91 h92 h93 h94 HW9
            simp only [Nat.mul_one, Nat.add_zero] at HP
            go_wp2_with fail
            generalize hW10 : World.setCell w9 _ _ = w10 at HP ⊢
            have hb10 : Below g9 w9 w10 := by rw [← hW10]; exact (Below.refl g9 w9).setCell (Nat.le_refl g9) _
            have HJ10 := Lib.hid (show JW w B2 L g o (some ⟨g5, 0, none⟩) p w10 from HJ8.out.below (HB9.out.trans (hb10.mono HG9.out.1)))
            have HT10 := Lib.hid (at_below HT8.out (HB9.out.trans (hb10.mono HG9.out.1)))
            have hat10 : Rn.At Hi.encI w10 (some ⟨g9, 0, none⟩) (o.set k ((o.length : Int) + 1)) := by
              obtain ⟨_, _, e, _, _, h3, _⟩ := HP.out.slice
              rw [(Value.slice.inj e).1]; exact h3
            have HO10 := Lib.hid hat10
            clear hW10 hb10 hat10 HP c9a f9a
            refine (fits_any B2 (some ⟨g5, 0, none⟩) d2 c5 L p w10 HJ10.out.ev HOK.out HL.out HJ10.out.les HPN.out.1 HG5.out.2.1 HPN.out.2.1).mono ?_
            rw [fitB_no (not_short HFT.out HPN.out.2.2)]
            rintro r w11 ⟨rfl, hb⟩
            have HJ11 := Lib.hid (HJ10.out.below hb)
            have HT11 := Lib.hid (at_below HT10.out hb)
            have HO11 := Lib.hid (at_below HO10.out hb)
            clear hb
            go_wp2_with fail
            refine (fits_any B2 A10 d2 c10 L tw w11 HJ11.out.ev HOK.out HL.out HT11.out HT8c.out.1 HT8c.out.2 HTL.out.1).mono ?_
            rw [fitB_no (not_short HFT.out HTL.out.2)]
            rintro r w12 ⟨rfl, hb⟩
            have HJ12 := Lib.hid (HJ11.out.below hb)
            have HO12 := Lib.hid (at_below HO11.out hb)
            clear hb
            have HQ := Lib.hid (fits_any B2 (some ⟨g9, 0, none⟩) d2 c9 L (o.set k ((o.length : Int) + 1)) w12 HJ12.out.ev HOK.out HL.out HO12.out (by rw [List.length_set]; exact HG9.out.2.1) HG9.out.2.2 (by rw [List.length_set]; have := HLN.out; omega))
            rw [List.length_set, fitB_no (not_far (x := (o.length : Int) + 1) (List.mem_of_getElem? (List.getElem?_set_self HK.out)) (by have := HFT.out.len; omega))] at HQ
            go_wp2_with fail
            refine HQ.out.mono ?_
            rintro r w13 ⟨rfl, hb⟩
            have HJ13 := Lib.hid (HJ12.out.below hb)
            clear hb
            go_wp2
            go_ret
            exact ⟨rfl, HJ13.out.bel⟩
  · have hgt : (L.length : Int) > 100 := by omega
    have HX := Lib.hid hl
    clear hl
    go_enter Try.func3, Try.ntmps3
    go_wp2_with fail
    refine (jalive_any _).mono ?_
    rintro r w1 ⟨rfl, hb1⟩
    have HB1 := Lib.hid hb1
    clear hb1
    go_wp2
    go_ret
    exact ⟨rfl, HB1.out⟩
end Go.Proofs.Ytaonepbongbhoaa.Jd
