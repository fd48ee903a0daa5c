/-
  The walk of GraphEmpty.
-/
import Derived.Test.YtkghpecimjmjfaaGreatDoorGraphRun2
namespace Go.Proofs.YtkghpecimjmjfaaGreatDoor.En
open Go.RowKit
attribute [local go_sem ↓] Go.wp_at_zero Go.wp_at_succ
theorem act_size {K : Int} {g : Eng} (h : Inv K g) (a : Act) : (act g a).1.p.size = g.p.size := by
  have hs := h.ps
  refine act_cases (P := fun g' _ _ _ => g'.p.size = g.p.size) ?_ ?_ ?_ ?_ ?_ ?_ ?_ ?_ ?_
  · intro _ _ _; rfl
  · intro _ _ _ _ _ _; rfl
  · intro i hL _; exact (closed_count hs (liveAt_some hL).2.1 false).2
  · intro _ i q _ _ _ _ hb; exact (behind_more hs hb).1.size
  · intro _ _ _ _ _; rfl
  · intro _ i q hL hb
    have m := (behind_more hs hb).1
    exact (closed_count (g := wrote g i q) m.sound (by show q.live.testBit i = true; rw [m.live]; exact (liveAt_some hL).2.1) true).2.trans m.size
  · intro _ i hL; exact (closed_count hs (liveAt_some hL).2.1 false).2
  · intro _ _ _; rfl
  · intro _ _ _; rfl
/-- what holds of an engine that acts went over. -/
structure RunIs (n : Int) (k : Nat) (g : Eng) : Prop where
  inv : Inv (k : Nat) g
  nx : Nx g
  size : g.p.size = n
  leg : Leg g
theorem runE_is {n v : Int} {l : Nat → Act} {N : Nat} (hn : 1 ≤ n ∧ n ≤ 32) (hv : 0 ≤ v ∧ v ≤ 64) (hN : N ≤ 100000) (hok : ∀ i, i < N → (l i).ok) : ∀ k, k ≤ N → RunIs n k (runE n v l k)
  | 0, _ => ⟨new_inv hn hv, new_nx n v, rfl, new_leg hv⟩
  | k + 1, hk => by
    have h := runE_is hn hv hN hok k (by omega)
    exact ⟨by have := act_inv h.inv (by omega) (hok k (by omega)); exact this.mono (by omega), act_nx h.inv h.nx (l k), (act_size h.inv (l k)).trans h.size, act_leg h.inv (by omega) h.leg⟩
theorem begin_nx {K : Int} {g : Eng} (h : Inv K g) (hn : Nx g) : Nx (begin g).1 := by
  have := act_nx h hn ⟨0, 0, 0, 0, 0⟩
  rwa [act_begin (by decide)] at this
theorem abort_nx {K : Int} {g : Eng} (h : Inv K g) (hn : Nx g) (id : Int) : Nx (abort g id).1 := by
  have := act_nx h hn ⟨10, id, 0, 0, 0⟩
  rwa [act_abort rfl] at this
theorem Live.less {w0 w : World} {P Q : Nat → Prop} {b N : Nat} {K : Int} {g : Eng} (h : Live w0 P b N K g w) (hQ : ∀ k, Q k → P k) : Live w0 Q b N K g w := by
  obtain ⟨F, hE, hF⟩ := h.ex
  exact ⟨⟨F, hE, fun k hk => ⟨(hF k hk).1, fun hq => (hF k hk).2 (hQ k hq)⟩⟩, h.bel, fun k hk => h.pl k (hQ k hk), h.inv⟩
/-- while all begin. -/
def EmRel (w : World) (b N : Nat) (n : Int) (m : Nat) (D : Int) (i : Value) (wr : World) : Prop :=
  ∃ (k : Nat) (g : Eng), (k : Int) ≤ D ∧ i = .int .i64 k ∧ Live w (fun _ => False) b (N + k) ((N + k : Nat) : Int) g wr ∧ Nx g ∧ g.p.size = n ∧ (rest g).length = m + k
/-- while all are aborted. -/
def AbRel (w w2 : World) (b N : Nat) (K : Int) (v : Value) (L : List Ent) (i : Value) (wr : World) : Prop :=
  ∃ (k : Nat) (g : Eng), k ≤ L.length ∧ i = .int .i64 k ∧ Live w (fun q => v.ownBlock = some q) b N K g wr ∧ Nx g ∧ AbI g (L.drop k) ∧ Same (fun q => v.ownBlock = some q) w2 wr
/-- one of the entries told, in a world that kept the row. -/
theorem xs_cell {w w' : World} {base : Nat} {v : Value} {X : List Xe} (h : OwnX w base v X) (hs : Same (fun q => v.ownBlock = some q) w w') {j : Nat} {x : Xe} (hx : X[j]? = some x) : ∃ q c, v = .slice (some ⟨q, 0, none⟩) X.length c ∧ w'.cell? ⟨q, j * 5, none⟩ = some (.int .i64 x.1.id) ∧ w'.cell? ⟨q, j * 5 + 1, none⟩ = some (.bool x.1.com) ∧ w'.cell? ⟨q, j * 5 + 2, none⟩ = some (.bool x.1.ovr) ∧ w'.cell? ⟨q, j * 5 + 3, none⟩ = some x.2.1 ∧ w'.cell? ⟨q, j * 5 + 4, none⟩ = some x.2.2 := by
  obtain ⟨A, c, rfl, _, _⟩ := h.slice
  obtain ⟨q, rfl, _, _⟩ := h.some_ (by have := (List.getElem?_eq_some_iff.1 hx).1; omega)
  have k : ∀ i, i < 5 → ∀ u, (entC x)[i]? = some u → w'.cell? ⟨q, j * 5 + i, none⟩ = some u := fun i hi u hu => hs.cell ((h.get hx i hi).trans hu) rfl
  exact ⟨q, c, rfl, k 0 (by decide) _ rfl, k 1 (by decide) _ rfl, k 2 (by decide) _ rfl, k 3 (by decide) _ rfl, k 4 (by decide) _ rfl⟩
set_option maxHeartbeats 8000000 in
set_option maxRecDepth 100000 in
theorem graphEmpty_walk (s v : Nat) (A : Option Addr) (N c : Nat) (l : Nat → Act) (w : World) (hs : s < 256) (hv : v < 256) (hl : ActsAt w A N c l) (hT : TabAt w) :
    Calls Tryz.prog 6 #[.int .u8 (s : Nat), .int .u8 (v : Nat), .slice A N c] w fun e w' => e = .returned (.bool true) ∧ Below w.heap.size w w' := by
  have HT := Lib.hid hT
  have HL := Lib.hid hl
  have hn : (N : Int) ≤ 9223372036854775807 := by have := hl.1; have := hl.2.1; unfold maxLen at this; omega
  have hze := ent_info
  obtain ⟨i0, hi0, hz0, hz1, hz2⟩ := info_parts ent_info
  clear hT hl hze
  go_enter Tryz.func6, Tryz.ntmps6
  go_wp2_with fail
  refine (alive_any w HT.out).mono ?_
  rintro e w1 ⟨rfl, hb1⟩
  have B1 := Lib.hid hb1
  clear hb1
  by_cases hbig : 150 < N
  · have hbig' : (150 : Int) < (N : Int) := by omega
    go_wp2
    go_ret
    exact ⟨rfl, B1.out⟩
  have hbig' : ¬ (150 : Int) < (N : Int) := by omega
  have hN150 : N ≤ 150 := by omega
  go_wp2_with fail
  refine (run_any s v A N c l w1 hs hv ⟨HL.out.1, HL.out.2.1, fun h0 => by
    obtain ⟨ad, e, hc⟩ := HL.out.2.2 h0
    refine ⟨ad, e, fun i hi => ?_⟩
    obtain ⟨h1, h2, h3⟩ := hc i hi
    exact ⟨h1, h2, fun q u hu => (B1.out.cell (Tx.cell_lt (h3 q u hu))).trans (h3 q u hu)⟩⟩ hN150 (HT.out.below B1.out HT.out.lt)).mono ?_
  rintro e w2 ⟨b, rfl, hl2⟩
  have HR := Lib.hid (runE_is (n := 1 + ((s % 32 : Nat) : Int)) (v := 1 + ((v % 9 : Nat) : Int)) (l := l) (N := N) ⟨by omega, by omega⟩ ⟨by omega, by omega⟩ (by omega) (fun i hi => (HL.out.at_ hi).choose_spec.2.1) N (Nat.le_refl _))
  have hr1 : (s : Int).tmod 32 = ((s % 32 : Nat) : Int) := u8_rem s 32 (by decide)
  have hb1 : s % 32 < 32 := Nat.mod_lt _ (by decide)
  generalize runE (1 + ((s % 32 : Nat) : Int)) (1 + ((v % 9 : Nat) : Int)) l N = g at *
  generalize s % 32 = r1 at *
  have H2 := Lib.hid (Live.since B1.out hl2)
  clear hl2
  go_wp2_with fail
  refine (rest_live H2.out (by omega) HT.out).mono ?_
  rintro e w3 ⟨v3, rfl, ht3, hb3⟩
  obtain ⟨A3, c3, rfl⟩ := ht3.len
  have H3 := Lib.hid (H2.out.below hb3)
  have HM := Lib.hid (show ((rest g).length : Int) ≤ 1 + (r1 : Nat) by
    rw [rest_len HR.out.inv.ps, ← HR.out.size]; exact count_le HR.out.inv.ps)
  generalize hm : (rest g).length = m at *
  have HMM := Lib.hid hm
  have hm2 := HM.out
  clear ht3 hb3 H2 hm
  go_wp2
  go_loopw [37] (EmRel w b N (1 + (r1 : Nat)) m (1 + (r1 : Nat) - (m : Int))) (fun i _ => 40 - (intOf i).toNat)
  case atStart => exact ⟨0, g, by have := HM.out; omega, rfl, H3.out, HR.out.nx, HR.out.size, HMM.out⟩
  case round =>
    obtain ⟨k, g', hk, rfl, hlv, hnx, hsz, hrl⟩ := hrel
    have HG := Lib.hid hlv
    have HNX := Lib.hid hnx
    have HSZ := Lib.hid hsz
    have HRL := Lib.hid hrl
    clear hlv hnx hsz hrl
    by_cases hlt : (k : Int) < 1 + (r1 : Nat) - (m : Int)
    · obtain ⟨s', hf⟩ := ff_room (g := g') HG.out.inv.ps (by rw [HRL.out, HSZ.out]; omega)
      have HFF := Lib.hid hf
      clear hf
      go_wp2_with fail
      have hc := begin_live HG.out (by omega) (by omega) HT.out
      rw [begin_at HFF.out] at hc
      refine hc.mono ?_
      rintro e w5 ⟨rfl, hl5, _⟩
      have H5 := Lib.hid (hl5.mono (M := N + (k + 1)) (L := ((N + (k + 1) : Nat) : Int)) (by omega) (by omega))
      have HNX5 := Lib.hid (show Nx (begun g' s') from by
        have := begin_nx HG.out.inv HNX.out
        rwa [begin_at HFF.out] at this)
      have HRL5 := Lib.hid (begun_rest HG.out.inv HFF.out)
      clear hl5 hc
      go_wp2
      exact ⟨⟨k + 1, begun g' s', by omega, by go_num, H5.out, HNX5.out, HSZ.out, by rw [HRL5.out, HRL.out]; omega⟩, by simp [intOf]; omega⟩
    · have hke : (k : Int) = 1 + (r1 : Nat) - (m : Int) := by omega
      have HFN := Lib.hid (ff_full' HG.out.inv (by rw [HRL.out, HSZ.out]; omega))
      go_wp2_with fail
      have hc := begin_live HG.out (by omega) (by omega) HT.out
      have hbn : begin g' = (g', 0, 4) := by unfold begin; rw [HFN.out]
      rw [hbn] at hc
      refine hc.mono ?_
      rintro e w5 ⟨rfl, hl5, _⟩
      have H5 := Lib.hid hl5
      clear hl5 hc hbn
      go_wp2_with fail
      refine (rest_live H5.out (by omega) HT.out).mono ?_
      rintro e w6 ⟨v6, rfl, ht6, hb6⟩
      obtain ⟨X, ho, hX, hXe⟩ := ht6.ex
      have HO := Lib.hid ho
      have HX := Lib.hid hX
      have HXE := Lib.hid hXe
      have H6 := Lib.hid (H5.out.own (Q := fun q => v6.ownBlock = some q) hb6 (fun q hq => .inr (World.ownsRow.lt ho q hq)))
      obtain ⟨A6, c6, rfl, _, _⟩ := ho.slice
      have HXL := Lib.hid (show X.length = (rest g').length by rw [← hX, List.length_map])
      have hxl : X.length ≤ 64 := by
        have h1 := HSZ.out
        have h2 := HRL.out
        have h3 := HXL.out
        omega
      clear ht6 hb6 ho hX hXe H5
      go_wp2
      go_loopw [57] (AbRel w w6 b (N + k + 1) (((N + k : Nat) : Int) + 1) (.slice A6 X.length c6) (rest g')) (fun i _ => 100 - (intOf i).toNat)
      case atStart => exact ⟨0, g', Nat.zero_le _, rfl, H6.out, HNX.out, AbI.start H6.out.inv.ps, Same.refl _ _⟩
      case round =>
        obtain ⟨j, ga, hj, rfl, hlv, hnx, hab, hsm⟩ := hrel
        have HG2 := Lib.hid hlv
        have HNX2 := Lib.hid hnx
        have HAB := Lib.hid hab
        have HSM := Lib.hid hsm
        clear hlv hnx hab hsm
        by_cases hltj : j < X.length
        · have hx := List.getElem?_eq_getElem hltj
          have hmem := List.getElem_mem hltj
          generalize X[j] = x at hx hmem
          have HXJ := Lib.hid hx
          have hd : (rest g').drop j = x.1 :: (rest g').drop (j + 1) := by
            have h1 : (rest g')[j]? = some x.1 := by rw [← HX.out, List.getElem?_map, hx]; rfl
            obtain ⟨h2, h3⟩ := List.getElem?_eq_some_iff.1 h1
            rw [List.drop_eq_getElem_cons h2, h3]
          have HDR := Lib.hid hd
          obtain ⟨q, cq, hq, x0, x1, x2, x3, x4⟩ := xs_cell HO.out HSM.out hx
          obtain ⟨hqA, hq1, hq2⟩ := Value.slice.inj hq
          subst hqA
          clear hq1 hq2
          obtain ⟨⟨A1, d1, e3, _⟩, ⟨A2, d2, e4, _⟩⟩ := HXE.out _ hmem
          obtain ⟨x, a3, a4⟩ := x
          dsimp only at x0 x1 x2 x3 x4 e3 e4
          subst e3; subst e4
          have hltj' : (j : Int) < (X.length : Int) := by omega
          clear hx hd hq hmem
          have HB7 := Lib.hid (Tx.Blk.new wr #[.int .i64 x.id, .bool x.com, .bool x.ovr, .slice A1 x.rd.length d1, .slice A2 x.wr.length d2] 69)
          have H7 := Lib.hid (HG2.out.below (Tx.below_new wr (.cells #[.int .i64 x.id, .bool x.com, .bool x.ovr, .slice A1 x.rd.length d1, .slice A2 x.wr.length d2] 69)))
          have HSM7 := Lib.hid (HSM.out.trans (HG2.out.same (Tx.below_new wr (.cells #[.int .i64 x.id, .bool x.com, .bool x.ovr, .slice A1 x.rd.length d1, .slice A2 x.wr.length d2] 69))))
          have y0 := HB7.out.cell 0
          have y2 := HB7.out.cell 2
          simp only [List.getElem?_toArray, List.getElem?_cons_zero, List.getElem?_cons_succ] at y0 y2
          have HXM := Lib.hid (show ∀ i, liveAt ga x.id = some i → St.i64p x.id from fun i hL => by
            have h1 := (liveAt_some hL).2.2
            have h2 := HG2.out.inv.ps.ids i (liveAt_some hL).1
            have h3 := HG2.out.inv.cnt
            exact ⟨by omega, by omega⟩)
          cases hov : x.ovr with
          | true =>
            have HAB2 := Lib.hid (show AbI ga ((rest g').drop (j + 1)) from by
              have h1 := HAB.out
              rw [HDR.out] at h1
              exact h1.skip hov)
            rw [hov] at x2 y2 HB7 H7 HSM7
            clear hov
            go_wp2
            exact ⟨⟨j + 1, ga, by have := HXL.out; omega, by go_num, H7.out, HNX2.out, HAB2.out, HSM7.out⟩, by simp [intOf]; omega⟩
          | false =>
            have HAB2 := Lib.hid (show (abort ga x.id).2 = 0 ∧ AbI (abort ga x.id).1 ((rest g').drop (j + 1)) from by
              have h1 := HAB.out
              rw [HDR.out] at h1
              exact h1.step HG2.out.inv.ps hov)
            have HID := Lib.hid (show St.i64p x.id from by
              have h1 := HAB.out
              rw [HDR.out] at h1
              obtain ⟨i, hL⟩ := h1.all x (by simp) hov
              exact HXM.out i hL)
            have HNX3 := Lib.hid (abort_nx HG2.out.inv HNX2.out x.id)
            rw [hov] at x2 y2 HB7 H7 HSM7
            clear hov
            go_wp2_with fail
            have hc := abort_live H7.out (by omega) HID.out
            rw [HAB2.out.1] at hc
            refine hc.mono ?_
            rintro e w8 ⟨rfl, hl8, hs8⟩
            have H8 := Lib.hid hl8
            have HSM8 := Lib.hid (HSM7.out.trans hs8)
            clear hl8 hs8 hc x0 x1 x2 x3 x4 y0 y2
            go_wp2
            exact ⟨⟨j + 1, (abort ga x.id).1, by have := HXL.out; omega, by go_num, H8.out, HNX3.out, HAB2.out.2, HSM8.out⟩, by simp [intOf]; omega⟩
        · have hje : j = X.length := by have := HXL.out; omega
          have HAB2 := Lib.hid (show AbI ga [] from by
            have h1 := HAB.out
            rw [List.drop_of_length_le (by have := HXL.out; omega)] at h1
            exact h1)
          have HDN := Lib.hid (HAB2.out.done HG2.out.inv.ps HNX2.out)
          subst hje
          go_wp2_with fail
          refine (rest_live HG2.out (by omega) HT.out).mono ?_
          rintro e w9 ⟨v9, rfl, ht9, hb9⟩
          rw [HDN.out] at ht9
          obtain ⟨A9, c9, rfl⟩ := ht9.len
          have H9 := Lib.hid (HG2.out.below hb9)
          clear ht9 hb9
          go_wp2
          go_ret
          exact ⟨rfl, H9.out.bel⟩
end Go.Proofs.YtkghpecimjmjfaaGreatDoor.En
