/-
  The walk of PoolGoes.
-/
import Derived.Test.YtakoceablbgchaaDoorPoolMap
namespace Go.Proofs.YtakoceablbgchaaDoor
open Go.RowKit
attribute [local go_sem ↓] Go.wp_at_zero Go.wp_at_succ
/-- some sound pool lies in its variable. -/
structure AnySt (g k : Nat) (P : Pl) (w W : World) : Prop where
  po : PoolAt W g P 31
  so : Po.Sound P
  co : P.count ≤ (k : Int)
  ge : w.heap.size ≤ g
  bel : Below w.heap.size w W
theorem AnySt.below {g k : Nat} {P : Pl} {w W W' : World} (h : AnySt g k P w W) (hb : Below W.heap.size W W') : AnySt g k P w W' := ⟨h.po.below hb, h.so, h.co, h.ge, h.bel.trans (hb.mono h.bel.size)⟩
def AnyRel (N g : Nat) (w : World) (i : Value) (wr : World) : Prop := ∃ k : Nat, k ≤ N ∧ i = .int .i64 k ∧ ∃ P, AnySt g k P w wr
theorem any_ask {P : Pl} (h : Po.Sound P) (hc : P.count ≤ 120) {x : Po.Act} (hx : x.kind < 256) (ha : i64p x.a) (hb : i64p x.b) {W : World} (hT : TabAt W) : DAsk P zeroP x W :=
  ⟨h.ok (by omega), zero_okP, by omega, by decide, by decide, by decide, ha, hb, hx, .inr rfl, hT⟩
/-- the pool, the row of what went, the map. -/
structure GwSt (P : Pl) (L : List Int) (v : Value) (base g b n : Nat) (f : Int → Int) (w W : World) : Prop where
  po : PoolAt W g P 31
  row : OwnI W base v L
  rowlt : ∀ k, v.ownBlock = some k → k < b
  mp : MapIs W b n f
  ge : w.heap.size ≤ g
  gb : g < b
  bel : Below w.heap.size w W
theorem GwSt.below {P : Pl} {L : List Int} {v : Value} {base g b n : Nat} {f : Int → Int} {w W W' : World} (h : GwSt P L v base g b n f w W) (hb : Below W.heap.size W W') : GwSt P L v base g b n f w W' :=
  ⟨h.po.below hb, h.row.below hb (Nat.le_refl _), h.rowlt, h.mp.keep hb (Nat.le_refl _), h.ge, h.gb, h.bel.trans (hb.mono h.bel.size)⟩
theorem OwnI.keepB {W W' : World} {base b : Nat} {v : Value} {L : List Int} (h : OwnI W base v L) (hlt : ∀ k, v.ownBlock = some k → k < b) (hb : Below b W W') : OwnI W' base v L := by
  refine ⟨h.1, ?_⟩
  rcases h.2 with hn | ⟨g', cap, cur, hv, hbase, hg', rest⟩
  · exact .inl hn
  · exact .inr ⟨g', cap, cur, hv, hbase, (hb.block g' (hlt g' (by rw [hv]; rfl))).trans hg', rest⟩
theorem GwSt.put {P : Pl} {L : List Int} {v : Value} {base g b n n' : Nat} {f f' : Int → Int} {w W W' : World} (h : GwSt P L v base g b n f w W) (hb : Below b W W') (hm : MapIs W' b n' f') : GwSt P L v base g b n' f' w W' :=
  ⟨(hb.block g h.gb).trans h.po, h.row.keepB h.rowlt hb, h.rowlt, hm, h.ge, h.gb, h.bel.trans (hb.mono (by have := h.ge; have := h.gb; omega))⟩
def GwRel (P : Pl) (L : List Int) (v : Value) (base g b : Nat) (w : World) (i : Value) (wr : World) : Prop := ∃ k : Nat, k ≤ L.length ∧ i = .int .i64 k ∧ GwSt P L v base g b k (Po.atF L k) w wr
structure GwRow (P : Pl) (L : List Int) (v : Value) (base g b n : Nat) (f : Int → Int) (w : World) (base2 : Nat) (v2 : Value) (L2 : List Nat) (W : World) : Prop where
  st : GwSt P L v base g b n f w W
  row : Own W base2 v2 L2
theorem GwRow.below {P : Pl} {L : List Int} {v : Value} {base g b n : Nat} {f : Int → Int} {w : World} {base2 : Nat} {v2 : Value} {L2 : List Nat} {W W' : World} (h : GwRow P L v base g b n f w base2 v2 L2 W) (hb : Below W.heap.size W W') : GwRow P L v base g b n f w base2 v2 L2 W' := ⟨h.st.below hb, h.row.below hb (Nat.le_refl _)⟩
theorem and_lt64 (x : Nat) {y : Nat} (h : y < 18446744073709551616) : x &&& y < 18446744073709551616 := Nat.lt_of_le_of_lt Nat.and_le_right h
def GwOut (P : Pl) (L : List Int) (v : Value) (base g b : Nat) (w : World) (base2 : Nat) (v2 : Value) (L2 : List Nat) (i : Value) (wr : World) : Prop := ∃ k : Nat, k ≤ L2.length ∧ i = .int .i64 k ∧ GwRow P L v base g b L.length (Po.atF L L.length) w base2 v2 L2 wr
structure GwRow2 (P : Pl) (L : List Int) (v : Value) (base g b n : Nat) (f : Int → Int) (w : World) (base2 : Nat) (v2 : Value) (L2 : List Nat) (base3 : Nat) (v3 : Value) (L3 : List Nat) (W : World) : Prop where
  st : GwRow P L v base g b n f w base2 v2 L2 W
  row : Own W base3 v3 L3
theorem GwRow2.below {P : Pl} {L : List Int} {v : Value} {base g b n : Nat} {f : Int → Int} {w : World} {base2 : Nat} {v2 : Value} {L2 : List Nat} {base3 : Nat} {v3 : Value} {L3 : List Nat} {W W' : World} (h : GwRow2 P L v base g b n f w base2 v2 L2 base3 v3 L3 W) (hb : Below W.heap.size W W') : GwRow2 P L v base g b n f w base2 v2 L2 base3 v3 L3 W' := ⟨h.st.below hb, h.row.below hb (Nat.le_refl _)⟩
def GwIn (P : Pl) (L : List Int) (v : Value) (base g b : Nat) (w : World) (base2 : Nat) (v2 : Value) (L2 : List Nat) (base3 : Nat) (v3 : Value) (L3 : List Nat) (i : Value) (wr : World) : Prop := ∃ k : Nat, k ≤ L3.length ∧ i = .int .i64 k ∧ GwRow2 P L v base g b L.length (Po.atF L L.length) w base2 v2 L2 base3 v3 L3 wr
theorem get_at {L : List Int} {k : Nat} (h : k < L.length) : L[k] = L.getD k 0 := (Po.getD_at h).symm
theorem kind_five {x : Nat} (h : x % 6 = 5) : ((x : Nat) : Int).tmod 6 = 5 := by rw [Int.tmod_eq_emod_of_nonneg (by omega)]; omega
theorem kind_other {x : Nat} (h : ¬ x % 6 = 5) : ((((x : Nat) : Int).tmod 6) == 5) = false := by rw [Int.tmod_eq_emod_of_nonneg (by omega), beq_eq_false_iff_ne]; omega
set_option maxHeartbeats 8000000 in
set_option maxRecDepth 100000 in
theorem poolGoes_walk (s : Nat) (A : Option Addr) (N c : Nat) (l : Nat → Po.Act) (w : World) (hs : s < 256) (hl : ActsAt w A N c l) (hT : TabAt w) :
    Calls Tryd.prog 6 #[.int .u8 (s : Nat), .slice A N c] w fun e w' => e = .returned (.bool true) ∧ Below w.heap.size w w' := by
  have hz1 := (zero_of_info zero_pool_info).1
  have hz2 := (zero_of_info zero_rpool_info).1
  have hbn := rbuild_none
  have HT := Lib.hid hT
  have HL := Lib.hid hl
  have hN : (N : Int) ≤ 9223372036854775807 := by have := hl.1; have := hl.2.1; unfold maxLen at this; omega
  obtain ⟨r, hr, hr32⟩ := u8_mod s hs
  have hn : 1 ≤ (1 : Int) + (r : Nat) ∧ (1 : Int) + (r : Nat) ≤ 32 := by omega
  clear hl hT
  have hmm := @run_makeMap Tryd.prog
  go_enter Tryd.func6, Tryd.ntmps6
  go_wp2_with fail
  refine (alive_any _ HT.out).mono ?_
  rintro e w1 ⟨rfl, hb1⟩
  have B1 := Lib.hid hb1
  clear hb1
  by_cases hbig : 120 < N
  · have hbig' : (120 : Int) < (N : Int) := by omega
    go_wp2
    go_ret
    exact ⟨rfl, B1.out⟩
  have hbig' : ¬ (120 : Int) < (N : Int) := by omega
  have hN120 : N ≤ 120 := by omega
  go_wp2_with fail
  refine (pnew_yes (1 + (r : Nat)) _ hn).mono ?_
  rintro e w2 ⟨rfl, hb2⟩
  have B2 := Lib.hid (B1.out.trans (hb2.mono B1.out.size))
  clear hb2
  go_wp2_with (refine wpList_letP rfl 31 (.tmp 5) (.tmp 31) rfl rfl w2 (Po.newP (1 + (r : Nat))) rfl rfl rfl pool_info ?_; intro w3 n3 hb3; have H3 := Lib.hid (show AnySt w2.heap.size 0 (Po.newP (1 + (r : Nat))) w w3 from ⟨n3, Po.new_sound hn, Int.le_refl _, B2.out.size, B2.out.trans (hb3.mono B2.out.size)⟩); clear n3 hb3)
  go_loopw [37] (AnyRel N w2.heap.size w) (fun i _ => N - (intOf i).toNat)
  case atStart => exact ⟨0, by omega, rfl, _, H3.out⟩
  case round =>
    obtain ⟨k, hk, rfl, P, hst⟩ := hrel
    have HS := Lib.hid hst
    clear hst
    by_cases hlt : k < N
    · obtain ⟨ad, rfl, hcs⟩ := HL.out.2.2 (by omega)
      obtain ⟨e0, e1, e2, k0, a0, b0⟩ := hcs k hlt
      generalize hx : l k = x at *
      have HA0 := Lib.hid a0
      have HB0 := Lib.hid b0
      have c0 := cell_keep e0 HS.out.bel (Nat.le_refl _)
      have c1 := act_second (cell_keep e1 HS.out.bel (Nat.le_refl _))
      have c2 := act_third (cell_keep e2 HS.out.bel (Nat.le_refl _))
      have hlt' : (k : Int) < (N : Int) := by omega
      have HS4 := Lib.hid (HS.out.below (below_new wr (.cells (actA x) 43)))
      clear hx e0 e1 e2 hcs a0 b0
      by_cases h5 : x.kind % 6 = 5
      · have h5' := kind_five h5
        go_wp2
        exact ⟨⟨k + 1, by omega, by go_num, P, HS4.out.po, HS4.out.so, by have := HS4.out.co; omega, HS4.out.ge, HS4.out.bel⟩, by simp [intOf]; omega⟩
      · have h5' := kind_other h5
        go_wp2_with (refine load_pool rfl 31 (.tmp 5) rfl w2.heap.size _ 31 rfl _ (HS.out.po.alloc _) Tryd.underlying31 rfl pool_info ?_)
        refine (does_any P zeroP x _ (any_ask HS4.out.so (by have := HS4.out.co; omega) k0 HA0.out HB0.out (tab_keep HT.out HS4.out.bel))).mono ?_
        rintro e w5 ⟨b, rfl, _, hb5⟩
        have HS5 := Lib.hid (HS4.out.below hb5)
        have HA := Lib.hid (Po.act_sound HS4.out.so x)
        have HAc := Lib.hid (Po.act_count HS4.out.so.done64 x)
        clear hb5 HS HS4 c0 c1 c2
        generalize Po.act P x = P2 at *
        go_wp2_with (refine wpList_setP rfl 31 (.tmp 5) (.tmp 50) rfl rfl w2.heap.size _ P2 rfl rfl HS5.out.po pool_info ?_; intro w6 n6 b6 _; have HS6 := Lib.hid (show AnySt w2.heap.size (k + 1) P2 w w6 from ⟨n6, HA.out, by have := HAc.out.1; have := HS5.out.co; omega, HS5.out.ge, b6 _ _ HS5.out.bel HS5.out.ge⟩); clear n6 b6)
        exact ⟨⟨k + 1, by omega, by go_num, P2, HS6.out⟩, by simp [intOf]; omega⟩
    · obtain rfl : k = N := by omega
      have HP := Lib.hid HS.out.so
      have HC := Lib.hid (show P.count ≤ 120 by have := HS.out.co; omega)
      have HG := Lib.hid HS.out.ge
      obtain ⟨wr1, hwr1⟩ : ∃ V, wr = V := ⟨_, rfl⟩
      rw [hwr1] at HS ⊢
      go_wp2_with (refine load_pool rfl 31 (.tmp 5) rfl w2.heap.size P 31 rfl _ HS.out.po Tryd.underlying31 rfl pool_info ?_)
      refine (collect_any P _ (HP.out.ok (by have := HC.out; omega))).mono ?_
      rintro e w7 ⟨v7, rfl, ho7, hb7⟩
      have HN := Lib.hid (Po.ids_nodup HP.out)
      have HW := Lib.hid (fun a b => Po.goes_way HP.out (a := a) (b := b))
      have hLen := Nat.le_trans (Po.collect_len P HP.out.done64) (Sm.items_len P.done)
      have HIds := Lib.hid (show ∀ z, z ∈ (Po.collect P).2 → i64p z by
        intro z hz
        rw [Po.went_ids HP.out.done64] at hz
        obtain ⟨s, hs, rfl⟩ := List.mem_map.1 hz
        have h1 := HP.out.ids s (HP.out.tk32 (.inr ((Po.went_done HP.out.done64).1 s hs).2))
        have h2 := HC.out
        exact ⟨by omega, by omega⟩)
      generalize (Po.collect P).1 = Q0
      generalize hL : (Po.collect P).2 = L at *
      clear hL
      have H7 := Lib.hid (HS.out.po.below hb7)
      have HB7 := Lib.hid (HS.out.bel.trans (hb7.mono HS.out.bel.size))
      have HO7 := Lib.hid ho7
      obtain ⟨A1, d1, rfl, hd1, hd2⟩ := OwnI.shape ho7
      clear ho7 hb7 HS
      go_wp2_with (refine wpList_letP rfl 31 (.tmp 9) (.tmp 57) rfl rfl w7 Q0 rfl rfl rfl pool_info ?_; intro w8 n8 hb8; have H8 := Lib.hid (H7.out.below hb8); have HB8 := Lib.hid (HB7.out.trans (hb8.mono HB7.out.size)); have HO8 := Lib.hid (HO7.out.below hb8 (Nat.le_refl _)); clear n8 hb8)
      have H9 := Lib.hid (show GwSt P L (.slice A1 L.length d1) (wr1.heap.size + 2) w2.heap.size w8.heap.size 0 (Po.atF L 0) w (w8.alloc (.map #[] 0)) from
        ⟨H8.out.alloc _, HO8.out.below (below_new _ _) (Nat.le_refl _), fun k hk => (World.ownsRow.lt HO8.out k hk).2, mapIs_made w8, HG.out, H8.out.lt, HB8.out.trans ((below_new w8 (.map #[] 0)).mono HB8.out.size)⟩)
      clear H7 HB7 HO7 H8 HB8 HO8
      obtain ⟨b, hb⟩ : ∃ n, w8.heap.size = n := ⟨_, rfl⟩
      rw [hb] at H9 ⊢
      go_wp2
      go_loopw [62] (GwRel P L (.slice A1 L.length d1) (wr1.heap.size + 2) w2.heap.size b w) (fun i _ => L.length - (intOf i).toNat)
      case atStart => exact ⟨0, by omega, rfl, H9.out⟩
      case round =>
        obtain ⟨t, ht, rfl, hst⟩ := hrel
        have HR := Lib.hid hst
        by_cases htl : t < L.length
        · obtain ⟨ga, rfl, hc⟩ := hst.row.at_ htl
          have hi := HIds.out _ (List.getElem_mem htl)
          have hlk := hst.mp.look hi
          rw [get_at htl] at hc hlk hi
          rw [Po.atF_fresh HN.out htl] at hlk
          have HI := Lib.hid hi
          have HF := Lib.hid (show (fun z => if z = L.getD t 0 then ((t : Nat) : Int) + 1 else Po.atF L t z) = Po.atF L (t + 1) from rfl)
          generalize L.getD t 0 = z at *
          clear hst hi
          go_wp2_with (refine wpList_putM rfl (.tmp 71) (.tmp 72) (.tmp 74) rfl b t (Po.atF L t) rfl HR.out.mp (by omega) z ((t : Nat) + 1) rfl (by go_simp) HI.out ⟨by omega, by omega⟩ ?_; intro w9 m9 hb9; have HR2 := Lib.hid (show GwSt P L (.slice (some ⟨ga, 0, none⟩) L.length d1) (wr1.heap.size + 2) w2.heap.size b (t + 1) (Po.atF L (t + 1)) w w9 from HR.out.put hb9 (by rw [← HF.out]; exact m9)); clear m9 hb9)
          exact ⟨⟨t + 1, by omega, by go_num, HR2.out⟩, by simp [intOf]; omega⟩
        · obtain rfl : t = L.length := by omega
          have q1 := hst.po.done_
          clear hst
          go_wp2_with fail
          refine (items_any P.done _ HP.out.done64 (tab_keep HT.out HR.out.bel)).mono ?_
          rintro e w10 ⟨v10, rfl, ho10, hb10⟩
          obtain ⟨L2, hL2⟩ : ∃ X, Sm.items P.done = X := ⟨_, rfl⟩
          obtain ⟨base2, hbase2⟩ : ∃ n, wr.heap.size = n := ⟨_, rfl⟩
          have hlen2 : L2.length ≤ 64 := by rw [← hL2]; exact Sm.items_len _
          have HL2 := Lib.hid hL2
          rw [hL2, hbase2] at ho10
          obtain ⟨A2, d2, rfl, hc1, hc2⟩ := Own.shape ho10
          have H10 := Lib.hid (show GwRow P L (.slice A1 L.length d1) (wr1.heap.size + 2) w2.heap.size b L.length (Po.atF L L.length) w base2 (.slice A2 L2.length d2) L2 w10 from ⟨HR.out.below hb10, ho10⟩)
          clear ho10 hb10 q1 HR hL2 hbase2
          go_wp2
          go_loopw [80] (GwOut P L (.slice A1 L.length d1) (wr1.heap.size + 2) w2.heap.size b w base2 (.slice A2 L2.length d2) L2) (fun i _ => 64 - (intOf i).toNat)
          case atStart => exact ⟨0, by omega, rfl, H10.out⟩
          case round =>
            obtain ⟨t, ht, rfl, hst⟩ := hrel
            have HR := Lib.hid hst
            by_cases htl : t < L2.length
            · obtain ⟨ga, rfl, hc⟩ := hst.row.at_ htl
              have hmem := List.getElem_mem htl
              generalize L2[t] = i at *
              have hid : P.done.testBit i = true := (Sm.items_mem.1 (by rw [HL2.out]; exact hmem)).2
              have hi32 := HP.out.tk32 (.inr hid)
              have HAnd := Lib.hid (bits_and_u64_nat (Mm.outs P.m i) P.done (by have := Mm.outs_lt P.m i; omega) HP.out.done64)
              have HIi := Lib.hid (show i64p (P.ids i) by have h1 := HP.out.ids i hi32; have h2 := HC.out; exact ⟨by omega, by omega⟩)
              clear hst hmem hid
              go_wp2
              refine wp_region_noPanic ?_
              refine region_start (S := GwRow P L (.slice A1 L.length d1) (wr1.heap.size + 2) w2.heap.size b L.length (Po.atF L L.length) w base2 (.slice (some ⟨ga, 0, none⟩) L2.length d2) L2) 10 rfl (by kernel_rfl) (HR.out.below (below_drew _)) (fun hHeld => ?_)
              refine take_at 0 84 (.pointer (some ⟨w2.heap.size, 1, none⟩)) rfl rfl (by kernel_rfl) (by kernel_rfl) (by kernel_rfl) (fun _ _ _ h => h) (Or.inl ⟨by rfl, by intro W hW; clear hW; go_simp; try (intro h; omega)⟩) hHeld ?_
              simp only [put_laws]
              refine take_at 1 85 (.agg (matA P.m)) rfl rfl (by kernel_rfl) (by kernel_rfl) (by kernel_rfl) (fun _ _ _ h => h) (yields_mid (by rfl) 27 (.tmp 84) rfl (w2.heap.size) 1 rfl (matA P.m) _ (fun W h => h.st.po.range_m) Tryd.underlying27 rfl (matInfo _)) hHeld ?_
              simp only [put_laws]
              refine take_at 2 86 (.int .i64 (i : Nat)) rfl rfl (by kernel_rfl) (by kernel_rfl) (by kernel_rfl) (fun _ _ _ h => h) (Or.inl ⟨by rfl, by intro W hW; clear hW; go_simp⟩) hHeld ?_
              simp only [put_laws]
              refine take_at 4 88 (.pointer (some ⟨w2.heap.size, 66, none⟩)) rfl rfl (by kernel_rfl) (by kernel_rfl) (by kernel_rfl) (fun _ _ _ h => h) (Or.inl ⟨by rfl, by intro W hW; clear hW; go_simp; try (intro h; omega)⟩) hHeld ?_
              simp only [put_laws]
              refine take_at 5 89 (.int .u64 (P.done : Nat)) rfl rfl (by kernel_rfl) (by kernel_rfl) (by kernel_rfl) (fun _ _ _ h => h) (Or.inl ⟨by rfl, by intro W hW; have hc := hW.st.po.done_; clear hW; go_simp⟩) hHeld ?_
              simp only [put_laws]
              refine take_at 9 93 (.int .i64 0) rfl rfl (by kernel_rfl) (by kernel_rfl) (by kernel_rfl) (fun _ _ _ h => h) (Or.inl ⟨by rfl, by intro W hW; clear hW; go_simp⟩) hHeld ?_
              simp only [put_laws]
              refine wpAnyH_ready (rs := [3]) (by kernel_rfl) (by simp) ?_
              refine AllReadyH.cons rfl (fun K hK => ?_) AllReadyH.nil
              go_simp
              refine (outs_in P.m i _ HP.out.mok hi32).mono ?_
              rintro e w11 ⟨rfl, hb11⟩
              try go_simp
              have hHeld := hHeld.below hb11
              refine hK.out _ _ hHeld (fun hHeld => ?_)
              clear hK K
              refine take_at 6 90 (.int .u64 ((Mm.outs P.m i &&& P.done : Nat) : Int)) rfl rfl (by kernel_rfl) (by kernel_rfl) (by kernel_rfl) (fun _ _ _ h => h) (Or.inl ⟨by rfl, by intro W hW; have hx := HAnd.out; clear hW; go_simp⟩) hHeld ?_
              simp only [put_laws]
              refine wpAnyH_ready (rs := [7]) (by kernel_rfl) (by simp) ?_
              refine AllReadyH.cons rfl (fun K hK => ?_) AllReadyH.nil
              go_simp
              refine (items_any (Mm.outs P.m i &&& P.done) _ (and_lt64 _ HP.out.done64) (tab_keep HT.out hHeld.st.bel)).mono ?_
              rintro e w12 ⟨v12, rfl, ho12, hb12⟩
              obtain ⟨A3, d3, rfl, hc3, hc4⟩ := Own.shape ho12
              try go_simp
              have hHeld := hHeld.below hb12
              refine hK.out _ _ hHeld (fun hHeld => ?_)
              clear hK K
              refine take_at 8 92 (.int .i64 ((Sm.items (Mm.outs P.m i &&& P.done)).length : Nat)) rfl rfl (by kernel_rfl) (by kernel_rfl) (by kernel_rfl) (fun _ _ _ h => h) (Or.inl ⟨by rfl, by intro W hW; clear hW; go_simp⟩) hHeld ?_
              simp only [put_laws]
              refine wpAnyH_done (by kernel_rfl) ?_ _
              refine NoPanic.normal ?_
              have HR2 := Lib.hid hHeld
              obtain ⟨L3, hL3⟩ : ∃ X, Sm.items (Mm.outs P.m i &&& P.done) = X := ⟨_, rfl⟩
              have HL3 := Lib.hid hL3
              have hlen3 : L3.length ≤ 64 := by rw [← hL3]; exact Sm.items_len _
              rw [hL3] at ho12 hc3 ⊢
              obtain ⟨base3, hbase3⟩ : ∃ n, w11.heap.size = n := ⟨_, rfl⟩
              rw [hbase3] at ho12
              have H12 := Lib.hid (show GwRow2 P L (.slice A1 L.length d1) (wr1.heap.size + 2) w2.heap.size b L.length (Po.atF L L.length) w base2 (.slice (some ⟨ga, 0, none⟩) L2.length d2) L2 base3 (.slice A3 L3.length d3) L3 w12 from ⟨HR2.out, ho12⟩)
              clear ho12 hb12 hHeld HR2 HR hL3 hbase3 hc
              go_wp2
              go_loopw [93] (GwIn P L (.slice A1 L.length d1) (wr1.heap.size + 2) w2.heap.size b w base2 (.slice (some ⟨ga, 0, none⟩) L2.length d2) L2 base3 (.slice A3 L3.length d3) L3) (fun i _ => 64 - (intOf i).toNat)
              case atStart => exact ⟨0, by omega, rfl, H12.out⟩
              case round =>
                obtain ⟨u, hu, rfl, hst⟩ := hrel
                have HR3 := Lib.hid hst
                by_cases hul : u < L3.length
                · obtain ⟨gc, rfl, hc⟩ := hst.row.at_ hul
                  have hmem := List.getElem_mem hul
                  generalize L3[u] = j at *
                  have hjb := (Sm.items_mem.1 (show j ∈ Sm.items (Mm.outs P.m i &&& P.done) by rw [HL3.out]; exact hmem)).2
                  rw [Nat.testBit_and, Bool.and_eq_true] at hjb
                  have hj32 := HP.out.tk32 (.inr hjb.2)
                  have HIj := Lib.hid (show i64p (P.ids j) by have h1 := HP.out.ids j hj32; have h2 := HC.out; exact ⟨by omega, by omega⟩)
                  have HWay := Lib.hid (HW.out i j hjb.2 ((Mm.outs_test _ _ _).1 hjb.1))
                  clear hst hmem hjb
                  go_wp2
                  refine wp_region_noPanic ?_
                  refine region_start (S := GwRow2 P L (.slice A1 L.length d1) (wr1.heap.size + 2) w2.heap.size b L.length (Po.atF L L.length) w base2 (.slice (some ⟨ga, 0, none⟩) L2.length d2) L2 base3 (.slice (some ⟨gc, 0, none⟩) L3.length d3) L3) 14 rfl (by kernel_rfl) (HR3.out.below (below_drew _)) (fun hHeld => ?_)
                  refine take_at 0 97 (.map (some b)) rfl rfl (by kernel_rfl) (by kernel_rfl) (by kernel_rfl) (fun _ _ _ h => h) (Or.inl ⟨by rfl, by intro W hW; clear hW; go_simp⟩) hHeld ?_
                  simp only [put_laws]
                  refine take_at 1 98 (.int .i64 (i : Nat)) rfl rfl (by kernel_rfl) (by kernel_rfl) (by kernel_rfl) (fun _ _ _ h => h) (Or.inl ⟨by rfl, by intro W hW; clear hW; go_simp⟩) hHeld ?_
                  simp only [put_laws]
                  refine take_at 2 99 (.pointer (some ⟨w2.heap.size, 67, none⟩)) rfl rfl (by kernel_rfl) (by kernel_rfl) (by kernel_rfl) (fun _ _ _ h => h) (Or.inl ⟨by rfl, by intro W hW; clear hW; go_simp; try (intro h; omega)⟩) hHeld ?_
                  simp only [put_laws]
                  refine take_at 3 100 (.pointer (some ⟨w2.heap.size, 67 + i, none⟩)) rfl rfl (by kernel_rfl) (by kernel_rfl) (by kernel_rfl) (fun _ _ _ h => h) (Or.inl ⟨by rfl, by intro W hW; clear hW; go_simp; try (intro h; omega)⟩) hHeld ?_
                  simp only [put_laws]
                  refine take_at 4 101 (.int .i64 (P.ids i)) rfl rfl (by kernel_rfl) (by kernel_rfl) (by kernel_rfl) (fun _ _ _ h => h) (Or.inl ⟨by rfl, by intro W hW; have hc := hW.st.st.po.id_ i hi32; clear hW; go_simp⟩) hHeld ?_
                  simp only [put_laws]
                  refine take_at 5 102 (.int .i64 (Po.atF L L.length (P.ids i))) rfl rfl (by kernel_rfl) (by kernel_rfl) (by kernel_rfl) (fun _ _ _ h => h) (Or.inl ⟨by rfl, by intro W hW; have hx := hW.st.st.mp.look HIi.out; clear hW; go_simp⟩) hHeld ?_
                  simp only [put_laws]
                  refine take_at 6 103 (.map (some b)) rfl rfl (by kernel_rfl) (by kernel_rfl) (by kernel_rfl) (fun _ _ _ h => h) (Or.inl ⟨by rfl, by intro W hW; clear hW; go_simp⟩) hHeld ?_
                  simp only [put_laws]
                  refine take_at 7 104 (.int .i64 (j : Nat)) rfl rfl (by kernel_rfl) (by kernel_rfl) (by kernel_rfl) (fun _ _ _ h => h) (Or.inl ⟨by rfl, by intro W hW; clear hW; go_simp⟩) hHeld ?_
                  simp only [put_laws]
                  refine take_at 8 105 (.pointer (some ⟨w2.heap.size, 67, none⟩)) rfl rfl (by kernel_rfl) (by kernel_rfl) (by kernel_rfl) (fun _ _ _ h => h) (Or.inl ⟨by rfl, by intro W hW; clear hW; go_simp; try (intro h; omega)⟩) hHeld ?_
                  simp only [put_laws]
                  refine take_at 9 106 (.pointer (some ⟨w2.heap.size, 67 + j, none⟩)) rfl rfl (by kernel_rfl) (by kernel_rfl) (by kernel_rfl) (fun _ _ _ h => h) (Or.inl ⟨by rfl, by intro W hW; clear hW; go_simp; try (intro h; omega)⟩) hHeld ?_
                  simp only [put_laws]
                  refine take_at 10 107 (.int .i64 (P.ids j)) rfl rfl (by kernel_rfl) (by kernel_rfl) (by kernel_rfl) (fun _ _ _ h => h) (Or.inl ⟨by rfl, by intro W hW; have hc := hW.st.st.po.id_ j hj32; clear hW; go_simp⟩) hHeld ?_
                  simp only [put_laws]
                  refine take_at 11 108 (.int .i64 (Po.atF L L.length (P.ids j))) rfl rfl (by kernel_rfl) (by kernel_rfl) (by kernel_rfl) (fun _ _ _ h => h) (Or.inl ⟨by rfl, by intro W hW; have hx := hW.st.st.mp.look HIj.out; clear hW; go_simp⟩) hHeld ?_
                  simp only [put_laws]
                  refine take_at 12 18 (.int .i64 (Po.atF L L.length (P.ids i))) rfl rfl (by kernel_rfl) (by kernel_rfl) (by kernel_rfl) (fun _ _ _ h => h) (Or.inl ⟨by rfl, by intro W hW; clear hW; go_simp⟩) hHeld ?_
                  simp only [put_laws]
                  refine take_at 13 19 (.int .i64 (Po.atF L L.length (P.ids j))) rfl rfl (by kernel_rfl) (by kernel_rfl) (by kernel_rfl) (fun _ _ _ h => h) (Or.inl ⟨by rfl, by intro W hW; clear hW; go_simp⟩) hHeld ?_
                  simp only [put_laws]
                  refine wpAnyH_done (by kernel_rfl) ?_ _
                  refine NoPanic.normal ?_
                  clear hc
                  have HR4 := Lib.hid hHeld
                  have hway := HWay.out
                  generalize Po.atF L L.length (P.ids i) = X at *
                  generalize Po.atF L L.length (P.ids j) = Y at *
                  clear hHeld HR3 HWay
                  by_cases hY : Y = 0
                  · subst hY
                    clear hway
                    go_wp2
                    exact ⟨⟨u + 1, by omega, by go_num, HR4.out⟩, by simp [intOf]; omega⟩
                  · obtain ⟨hx0, hxy⟩ := hway.resolve_left hY
                    have y1 : (0 : Int) < Y := by omega
                    have y2 : (X == 0) = false := by rw [beq_eq_false_iff_ne]; omega
                    have y3 : ¬ Y < X := by omega
                    clear hway hY
                    go_wp2
                    exact ⟨⟨u + 1, by omega, by go_num, HR4.out⟩, by simp [intOf]; omega⟩
                · obtain rfl : u = L3.length := by omega
                  have HR4 := Lib.hid hst.st
                  clear hst HR3
                  go_wp2
                  exact ⟨⟨t + 1, by omega, by go_num, HR4.out⟩, by simp [intOf]; omega⟩
            · obtain rfl : t = L2.length := by omega
              go_wp2
              go_ret
              exact ⟨rfl, hst.st.bel⟩
end Go.Proofs.YtakoceablbgchaaDoor
