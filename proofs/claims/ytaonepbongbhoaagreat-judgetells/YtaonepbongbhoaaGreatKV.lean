/-
  Contracts of the document's next and Find.
  The contract of the document's Find.
  The contract of the document's Fits.
-/
import Derived.Test.YtaonepbongbhoaaGreatKQ
import Derived.Test.YtaonepbongbhoaaGreatKR
import Derived.Test.YtaonepbongbhoaaGreatKT
import Derived.Test.YtaonepbongbhoaaGreatKS
import Derived.Test.YtaonepbongbhoaaGreatKU
namespace Go.Proofs.YtaonepbongbhoaaGreat.Jd
open Go.RowKit
open Hi (Ev encE crs crL idsL Is Ge graph_r right_r ids_r GrPost)
/-- the bits are those of whom had lists. -/
structure Bt (H : Nat) (had : List Nat) : Prop where
  lt : H < 18446744073709551616
  is : ∀ k, k < 64 → H.testBit k = had.contains k
theorem bt_nil : Bt 0 [] := ⟨by decide, fun k _ => by simp⟩
theorem Bt.more {H : Nat} {had : List Nat} {i : Nat} (h : Bt H had) (hi : i < 64) : Bt (Sm.add H (i : Nat)) (had ++ [i]) :=
  ⟨Sm.add_lt _ h.lt, fun k hk => by
    rw [Sm.add_test, h.is k hk]
    by_cases e : k = i
    · subst e; simp; omega
    · have e1 : decide (0 ≤ ((i : Nat) : Int) ∧ ((i : Nat) : Int) ≤ 63 ∧ (k : Int) = ((i : Nat) : Int)) = false := by
        rw [decide_eq_false_iff_not]; omega
      rw [e1]; simp [e]⟩
/-- whether all ins of i among the first k stand. -/
def rdTo (e : Nat → Nat → Bool) (had : List Nat) (i k : Nat) : Bool := (List.range k).all fun j => !e j i || had.contains j
theorem rdTo_succ (e : Nat → Nat → Bool) (had : List Nat) (i k : Nat) : rdTo e had i (k + 1) = (rdTo e had i k && (!e k i || had.contains k)) := by
  unfold rdTo; rw [List.range_succ, List.all_append]; simp
theorem rdy_to (e : Nat → Nat → Bool) (n : Nat) (had : List Nat) (i : Nat) : rdy e n had i = (!had.contains i && rdTo e had i n) := rfl
def nxV (e : Nat → Nat → Bool) (n : Nat) (had : List Nat) : Int := match nextO e n had with
  | some i => (i : Int) + 1
  | none => 0
theorem nx_hit {e : Nat → Nat → Bool} {n : Nat} {had : List Nat} {i : Nat} (hi : i < n) (h : rdy e n had i = true) (hf : ∀ j, j < i → rdy e n had j = false) : nxV e n had = (i : Int) + 1 := by
  unfold nxV; rw [next_iff.2 ⟨hi, h, hf⟩]
theorem nx_none {e : Nat → Nat → Bool} {n : Nat} {had : List Nat} (hf : ∀ j, j < n → rdy e n had j = false) : nxV e n had = 0 := by
  unfold nxV
  cases h : nextO e n had with
  | none => rfl
  | some i =>
    have h1 := next_iff.1 h
    have h2 := hf i h1.1
    rw [h1.2.1] at h2; cases h2
theorem edge_turn {m : Mm.Gr} {i k : Nat} (hi : i < 32) (hk : k < 32) : edge (turn m) (i : Nat) (k : Nat) = eM m k i := by
  have h1 : (Mm.outs (turn m) i).testBit k = eM m k i := by
    rw [Bool.eq_iff_iff, Mm.outs_test, turn_E]
    unfold Mm.E eM
    exact ⟨fun h => h.2.2, fun h => ⟨hk, hi, h⟩⟩
  unfold edge
  simp [h1]
/-- the boxes of next. -/
structure Nx (w : World) (q t : Nat) (m : Mm.Gr) (W : World) : Prop where
  a : MatAt W q m 56
  b : MatAt W t (turn m) 56
  bel : Below w.heap.size w W
theorem Nx.below {w : World} {q t : Nat} {m : Mm.Gr} {W W' : World} (h : Nx w q t m W) (hb : Below W.heap.size W W') : Nx w q t m W' := ⟨h.a.below hb, h.b.below hb, h.bel.trans (hb.mono h.bel.size)⟩
def NoRel (w : World) (q t : Nat) (m : Mm.Gr) (n : Nat) (had : List Nat) (i : Value) (wr : World) : Prop := ∃ k : Nat, k ≤ n ∧ i = .int .i64 k ∧ Nx w q t m wr ∧ ∀ j, j < k → rdy (eM m) n had j = false
def NiRel (w : World) (q t : Nat) (m : Mm.Gr) (n : Nat) (had : List Nat) (i : Nat) (v j : Value) (wr : World) : Prop := ∃ k : Nat, k ≤ n ∧ j = .int .i64 k ∧ v = .bool (rdTo (eM m) had i k) ∧ Nx w q t m wr
set_option maxRecDepth 100000 in
set_option maxHeartbeats 4000000 in
theorem next_any (m : Mm.Gr) (n H : Nat) (had : List Nat) (w : World) (hm : Mm.Ok m) (hn : n ≤ 32) (hH : Bt H had) :
    Calls Tryz.prog 24 #[.agg (matA m), .int .i64 (n : Nat), .int .u64 (H : Nat)] w fun r w' => r = .returned (.int .i64 (nxV (eM m) n had)) ∧ Below w.heap.size w w' := by
  have HM := Lib.hid hm
  have HH := Lib.hid hH
  have HN := Lib.hid hn
  have hnN : (n : Int) ≤ 32 := by omega
  clear hH hn
  go_enter Tryz.func24, Tryz.ntmps24
  have H0 := Lib.hid (show MatAt (w.alloc (.cells (matA m) 56)) w.heap.size m 56 from matAt_new _ _ _)
  have HB0 := Lib.hid (Rn.below_new w (.cells (matA m) 56))
  go_wp2_with (first
    | (refine wpList_load_row rfl 56 (.tmp 3) rfl w.heap.size rfl 56 (matA m) (0, 0) _ H0.out Tryz.underlying56 rfl (rmatInfo m) ?_)
    | fail)
  refine (turn_any m _ hm).mono ?_
  rintro r w1 ⟨rfl, hb1⟩
  have H1 := Lib.hid (H0.out.below hb1)
  have HB1 := Lib.hid (HB0.out.trans (hb1.mono HB0.out.size))
  clear hb1 H0 HB0
  go_wp2_with (refine wpList_store_row rfl 56 (.tmp 7) (.tmp 12) rfl w1.heap.size (matA (turn m)) rfl rfl 56 _ (heap_alloc_new _ _) (rmatInfo _) (by rw [matA_size]; rfl) (matA_one _) ?_; generalize hw2 : World.setRow _ w1.heap.size (matA (turn m)) = w2)
  have HNX := Lib.hid (show Nx w w.heap.size w1.heap.size m w2 from by
    have hbb : Below w1.heap.size w1 w2 := by rw [← hw2]; exact setRow_below (Rn.below_new _ _) (Nat.le_refl _)
    exact ⟨H1.out.below hbb, by rw [← hw2]; exact setRow_heap _ _ _ _ _ _ (heap_alloc_new _ _), HB1.out.trans (hbb.mono HB1.out.size)⟩)
  clear hw2 H1 HB1
  generalize hq : w.heap.size = q at HNX ⊢
  have HQ := Lib.hid hq
  clear hq
  generalize w1.heap.size = t at HNX
  go_loopw [8] (NoRel w q t m n had) (fun i _ => n - (intOf i).toNat)
  case atStart => exact ⟨0, Nat.zero_le _, rfl, HNX.out, fun j hj => absurd hj (Nat.not_lt_zero _)⟩
  case round =>
    obtain ⟨i, hi, rfl, hnx, hf⟩ := hrel
    have HNX := Lib.hid hnx
    have HF := Lib.hid hf
    clear hnx hf
    by_cases hlt : i < n
    · have HIL := Lib.hid hlt
      have HI32 := Lib.hid (show i < 32 by have := HN.out; omega)
      have hlt' : (i : Int) < (n : Int) := by omega
      cases hc : had.contains i with
      | true =>
        have HR := Lib.hid (show rdy (eM m) n had i = false from by rw [rdy_to, hc]; rfl)
        have HT := Lib.hid (show H.testBit i = true from by rw [HH.out.is i (by have := HI32.out; omega)]; exact hc)
        clear hc
        go_wp2_with fail
        refine (rhasN_val H i true wr HH.out.lt (by have := HI32.out; omega) HT.out).mono ?_
        rintro r w3 ⟨rfl, hw⟩
        subst hw
        go_wp2
        go_roundw
        case rel => exact ⟨i + 1, by have := HIL.out; omega, by go_num, HNX.out, fun j hj => by
          by_cases e : j = i
          · subst e; exact HR.out
          · exact HF.out j (by omega)⟩
        case measure => simp [intOf]; have := HIL.out; omega
      | false =>
        have HC := Lib.hid hc
        have HT := Lib.hid (show H.testBit i = false from by rw [HH.out.is i (by have := HI32.out; omega)]; exact hc)
        clear hc
        obtain ⟨wo, hwo⟩ : ∃ wo, wo = wr := ⟨_, rfl⟩
        subst hwo
        go_wp2_with fail
        refine (rhasN_val H i false wo HH.out.lt (by have := HI32.out; omega) HT.out).mono ?_
        rintro r w3 ⟨rfl, hw⟩
        subst hw
        go_wp2
        go_loopw [9, 10] (NiRel w q t m n had i) (fun _ j _ => n - (intOf j).toNat)
        case atStart => exact ⟨0, Nat.zero_le _, rfl, rfl, HNX.out⟩
        case round =>
          obtain ⟨k, hk, rfl, rfl, hnx⟩ := hrel
          have HNX := Lib.hid hnx
          clear hnx
          by_cases hlt2 : k < n
          · have HKL := Lib.hid hlt2
            have HK32 := Lib.hid (show k < 32 by have := HN.out; omega)
            have hlt2' : (k : Int) < (n : Int) := by omega
            have HE := Lib.hid (edge_turn (m := m) HI32.out HK32.out)
            cases hb0 : rdTo (eM m) had i k with
            | false =>
              have HS1 := Lib.hid (show rdTo (eM m) had i (k + 1) = false from by rw [rdTo_succ, hb0]; rfl)
              clear hb0
              go_wp2
              go_roundw
              case rel => exact ⟨k + 1, by have := HKL.out; omega, by go_num, by rw [HS1.out], HNX.out⟩
              case measure => simp [intOf]; have := HKL.out; omega
            | true =>
              have HB0 := Lib.hid hb0
              clear hb0
              go_wp2_with (refine wpList_load_rowG rfl 56 (.tmp 7) rfl t rfl 56 (matA (turn m)) (0, 0) _ HNX.out.b Tryz.underlying56 rfl (rmatInfo _) ?_)
              refine (rmhas_in (turn m) i k wr (turn_ok m) HI32.out HK32.out).mono ?_
              rw [HE.out]
              rintro r w4 ⟨rfl, hb4⟩
              have HNX4 := Lib.hid (HNX.out.below hb4)
              clear hb4
              cases he : eM m k i with
              | false =>
                have HS1 := Lib.hid (show rdTo (eM m) had i (k + 1) = true from by rw [rdTo_succ, HB0.out, he]; rfl)
                clear he
                go_wp2
                go_roundw
                case rel => exact ⟨k + 1, by have := HKL.out; omega, by go_num, by rw [HS1.out], HNX4.out⟩
                case measure => simp [intOf]; have := HKL.out; omega
              | true =>
                cases hh : had.contains k with
                | false =>
                  have HS1 := Lib.hid (show rdTo (eM m) had i (k + 1) = false from by rw [rdTo_succ, HB0.out, he, hh]; rfl)
                  have HT2 := Lib.hid (show H.testBit k = false from by rw [HH.out.is k (by have := HK32.out; omega)]; exact hh)
                  clear he hh
                  go_wp2_with fail
                  refine (rhasN_val H k false w4 HH.out.lt (by have := HK32.out; omega) HT2.out).mono ?_
                  rintro r w5 ⟨rfl, hw⟩
                  subst hw
                  go_wp2
                  go_roundw
                  case rel => exact ⟨k + 1, by have := HKL.out; omega, by go_num, by rw [HS1.out], HNX4.out⟩
                  case measure => simp [intOf]; have := HKL.out; omega
                | true =>
                  have HS1 := Lib.hid (show rdTo (eM m) had i (k + 1) = true from by rw [rdTo_succ, HB0.out, he, hh]; rfl)
                  have HT2 := Lib.hid (show H.testBit k = true from by rw [HH.out.is k (by have := HK32.out; omega)]; exact hh)
                  clear he hh
                  go_wp2_with fail
                  refine (rhasN_val H k true w4 HH.out.lt (by have := HK32.out; omega) HT2.out).mono ?_
                  rintro r w5 ⟨rfl, hw⟩
                  subst hw
                  go_wp2
                  go_roundw
                  case rel => exact ⟨k + 1, by have := HKL.out; omega, by go_num, by rw [HS1.out], HNX4.out⟩
                  case measure => simp [intOf]; have := HKL.out; omega
          · have hlt2' : ¬ (k : Int) < (n : Int) := by omega
            obtain rfl : k = n := by omega
            cases hb0 : rdTo (eM m) had i k with
            | false =>
              have HR := Lib.hid (show rdy (eM m) k had i = false from by rw [rdy_to, hb0, Bool.and_false])
              clear hb0
              go_wp2
              exact ⟨⟨i + 1, by have := HIL.out; omega, by go_num, HNX.out, fun j hj => by
                by_cases e : j = i
                · subst e; exact HR.out
                · exact HF.out j (by omega)⟩, by simp [intOf]; have := HIL.out; omega⟩
            | true =>
              have HR := Lib.hid (show rdy (eM m) k had i = true from by rw [rdy_to, HC.out, hb0]; rfl)
              clear hb0
              go_wp2
              go_ret
              exact ⟨by rw [nx_hit HIL.out HR.out HF.out]; rfl, HNX.out.bel⟩
    · have hlt' : ¬ (i : Int) < (n : Int) := by omega
      obtain rfl : i = n := by omega
      go_wp2
      go_ret
      exact ⟨by rw [nx_none HF.out]; rfl, HNX.out.bel⟩
end Go.Proofs.YtaonepbongbhoaaGreat.Jd
namespace Go.Proofs.YtaonepbongbhoaaGreat.Jd
open Go.RowKit
open Hi (Ev encE crs crL idsL Is Ge graph_r right_r ids_r GrPost)
theorem rmat_store (w1 : World) (m : Mm.Gr) {w2 : World} (h : World.setRow (w1.alloc (.cells (matA zeroM) 56)) w1.heap.size (matA m) = w2) : MatAt w2 w1.heap.size m 56 ∧ Below w1.heap.size w1 w2 := by
  subst h
  exact ⟨setRow_heap _ _ _ _ _ _ (heap_alloc_new _ _), setRow_below (Rn.below_new _ _) (Nat.le_refl _)⟩
theorem nx_some {L : List Ev} {m : Mm.Gr} {had : List Nat} (hf : Fnd L) (his : Is m (Ge (crL L))) (hn : (crL L).length ≤ 32) (hs : Srch (eL L) (crL L).length had) (hl : had.length < (crL L).length) : ∃ i, nextO (eL L) (crL L).length had = some i ∧ nxV (eM m) (crL L).length had = (i : Int) + 1 := by
  obtain ⟨i, hi⟩ := next_ex hf.2 (miss hl)
  refine ⟨i, hi, ?_⟩
  unfold nxV
  rw [next_congr (eM_eL his hn), hi]
structure RF (w : World) (q : Nat) (m : Mm.Gr) (base : Nat) (v : Value) (had : List Nat) (W : World) : Prop where
  bx : MatAt W q m 56
  ow : Rn.Own Hi.encI W base 3 v (up had)
  bel : Below w.heap.size w W
  le : base ≤ W.heap.size
def RfRel (w : World) (q : Nat) (m : Mm.Gr) (base : Nat) (L : List Ev) (v h : Value) (wr : World) : Prop := ∃ (had : List Nat) (H : Nat), h = .int .u64 (H : Nat) ∧ Bt H had ∧ Srch (eL L) (crL L).length had ∧ RF w q m base v had wr
def lenW : Value → Nat
  | .slice _ n _ => n
  | _ => 0
theorem lenW_own {α : Type} {E : Rn.Enc α} {w : World} {base : Nat} {e : TypeId} {v : Value} {L : List α} (h : Rn.Own E w base e v L) : lenW v = L.length := by
  rcases h.2 with ⟨rfl, h0⟩ | ⟨g, cap, cur, rfl, _⟩
  · exact h0.symm
  · rfl
set_option maxRecDepth 100000 in
set_option maxHeartbeats 8000000 in
theorem rfind_any (A : Option Addr) (c : Nat) (L : List Ev) (w : World) (h : Rn.At encE w A L) (hl : L.length ≤ 300) (hc : L.length ≤ c) (hcm : c ≤ maxLen) :
    Calls Tryz.prog 7 #[.slice A L.length c] w (FindPost L w) := by
  have H := Lib.hid h
  have HL := Lib.hid (show L.length ≤ 2000 from by omega)
  have HL3 := Lib.hid hl
  have HC := Lib.hid (show L.length ≤ c ∧ c ≤ maxLen from ⟨hc, hcm⟩)
  have HG := Lib.hid (graph_r A c L w h hl hc hcm)
  have HN32 := Lib.hid (Hi.crL_ok HL.out).2
  unfold GrPost at HG
  clear h hl hc hcm
  have key : ∀ (m : Mm.Gr) (w2 : World), fndB L = false → Below w.heap.size w w2 → FindPost L w (.returned (.tuple #[.slice none 0 0, .bool false])) w2 := fun m w2 hb hw => find_none (fun q => by rw [fndB_yes q] at hb; cases hb) hw
  have HKEY := Lib.hid key
  clear key
  go_enter Tryz.func7, Tryz.ntmps7
  go_wp2_with fail
  refine HG.out.mono ?_
  rintro r w1 ⟨m, rfl, his, hb1⟩
  have HIS := Lib.hid his
  have HB1 := Lib.hid hb1
  have HFF := Lib.hid (free_fnd HL.out his)
  clear his hb1 HG
  cases hcs : (crs L).isSome with
  | false =>
    have HFB := Lib.hid (show fndB L = false from by rw [HFF.out, hcs]; rfl)
    clear hcs
    go_wp2_with (refine wpList_store_row rfl 56 (.tmp 4) (.tmp 13) rfl w1.heap.size (matA m) rfl rfl 56 _ (heap_alloc_new _ _) (rmatInfo m) (by rw [matA_size]; rfl) (matA_one _) ?_; generalize hw2 : World.setRow _ w1.heap.size (matA m) = w2)
    have HB2 := Lib.hid (show Below w.heap.size w w2 from HB1.out.trans ((show Below w1.heap.size w1 w2 from by rw [← hw2]; exact setRow_below (Rn.below_new _ _) (Nat.le_refl _)).mono HB1.out.size))
    clear hw2
    go_ret2
    exact HKEY.out m _ HFB.out HB2.out
  | true =>
    have HFM := Lib.hid (show fndB L = Mm.free m from by rw [HFF.out, hcs, Bool.true_and])
    clear hcs HFF
    go_wp2_with (first
      | (refine wpList_store_row rfl 56 (.tmp 4) (.tmp 13) rfl w1.heap.size (matA m) rfl rfl 56 _ (heap_alloc_new _ _) (rmatInfo m) (by rw [matA_size]; rfl) (matA_one _) ?_
         generalize hw2 : World.setRow _ w1.heap.size (matA m) = w2
         have HM2 := Lib.hid (show MatAt w2 w1.heap.size m 56 from by rw [← hw2]; exact setRow_heap _ _ _ _ _ _ (heap_alloc_new _ _))
         have HB2 := Lib.hid (show Below w.heap.size w w2 from HB1.out.trans ((show Below w1.heap.size w1 w2 from by rw [← hw2]; exact setRow_below (Rn.below_new _ _) (Nat.le_refl _)).mono HB1.out.size))
         clear hw2
         generalize w1.heap.size = q at HM2 ⊢)
      | (refine wpList_load_rowG rfl 56 (.tmp 4) rfl q rfl 56 (matA m) (0, 0) _ HM2.out Tryz.underlying56 rfl (rmatInfo m) ?_))
    refine (rfree_any m w2 HIS.out.ok).mono ?_
    rw [← HFM.out]
    rintro r w3 ⟨rfl, hb3⟩
    have HM3 := Lib.hid (HM2.out.below hb3)
    have HB3 := Lib.hid (HB2.out.trans (hb3.mono HB2.out.size))
    clear hb3 HM2 HB2
    cases hfb : fndB L with
    | false =>
      have HFB := Lib.hid hfb
      clear hfb
      go_wp2
      go_ret2
      exact HKEY.out m _ HFB.out HB3.out
    | true =>
      have HFB := Lib.hid hfb
      have HFD := Lib.hid ((fndB_iff L).1 hfb)
      clear hfb
      go_wp2_with fail
      refine (ids_r A c L w3 (H.out.below HB3.out (Nat.le_refl _)) HL3.out HC.out.1 HC.out.2).mono ?_
      rintro r w4 ⟨BI, dI, rfl, _, _, _, hb4⟩
      have HM4 := Lib.hid (HM3.out.below hb4)
      have HB4 := Lib.hid (HB3.out.trans (hb4.mono HB3.out.size))
      clear hb4 HM3 HB3
      rw [show (idsL (crL L).length).length = (crL L).length from by simp [idsL]]
      have hnN : ((crL L).length : Int) ≤ 32 := by have := HN32.out; omega
      have HBS := Lib.hid (show w.heap.size ≤ w4.heap.size from HB4.out.size)
      have HQL := Lib.hid HM4.out.lt
      go_wp2
      go_loopw [7, 8] (RfRel w q m w4.heap.size L) (fun v _ _ => (crL L).length - lenW v)
      case atStart => exact ⟨[], 0, rfl, bt_nil, srch_nil _ _, HM4.out, Rn.Own.nil _ _ _, HB4.out, Nat.le_refl _⟩
      case round =>
        obtain ⟨had, K, rfl, hbt, hsr, hrf⟩ := hrel
        have HBT := Lib.hid hbt
        have HSR := Lib.hid hsr
        have HRF := Lib.hid hrf
        have HLW := Lib.hid (show lenW u7 = had.length from by rw [lenW_own hrf.ow, up_len])
        clear hbt hsr hrf
        obtain ⟨A7, c7, hv7, h7a, h7b, h7c, h7d⟩ := HRF.out.ow.slice
        rw [up_len] at hv7
        by_cases hlt : had.length < (crL L).length
        · obtain ⟨i, hi, hx⟩ := nx_some HFD.out HIS.out HN32.out HSR.out hlt
          have HIN := Lib.hid (next_iff.1 hi).1
          have HNX := Lib.hid hi
          have HI64 := Lib.hid (show i < 64 by have := HIN.out; have := HN32.out; omega)
          have HNV := Lib.hid hx
          have HLT := Lib.hid hlt
          have hlt' : (had.length : Int) < ((crL L).length : Int) := by omega
          have hi64 : (i : Int) < 64 := by have := HI64.out; omega
          have HUP := Lib.hid (show (up had).length ≤ 32 from by rw [up_len]; have := HLT.out; have := HN32.out; omega)
          subst hv7
          clear h7a h7b h7c h7d hi hx hlt
          go_wp2_with (refine wpList_load_row rfl 56 (.tmp 4) rfl q rfl 56 (matA m) (0, 0) _ HRF.out.bx Tryz.underlying56 rfl (rmatInfo m) ?_)
          refine (next_any m (crL L).length K had wr HIS.out.ok HN32.out HBT.out).mono ?_
          rw [HNV.out]
          rintro r w5 ⟨rfl, hb5⟩
          have HRF5 := Lib.hid (show RF w q m w4.heap.size (.slice A7 had.length c7) had w5 from ⟨HRF.out.bx.below hb5, HRF.out.ow.below hb5 (Nat.le_refl _), HRF.out.bel.trans (hb5.mono HRF.out.bel.size), Nat.le_trans HRF.out.le hb5.size⟩)
          clear hb5
          have HAT := Lib.hid (show Rn.At Hi.encI (w5.alloc (.cells #[.int .i64 ((i : Int) + 1)] 3)) (some ⟨w5.heap.size, 0, none⟩) [(i : Int) + 1] from Rn.At.new w5 ((i : Int) + 1) #[.int .i64 ((i : Int) + 1)] rfl 3 rfl)
          go_wp2_with (at_builtin; refine Rn.append_row Hi.encI vtI rfl _ _ rfl rfl (HRF5.out.ow.alloc _) _ _ [(i : Int) + 1] rfl rfl HAT.out ?c1 ?c2 ?_)
          case c1 => have := HUP.out; simp; omega
          case c2 => have := HRF5.out.le; simp; omega
          intro v' w6 ho6 hb6 hs6
          have hbb : Below w4.heap.size w5 w6 := ((Below.refl _ _).alloc HRF5.out.le _).trans hb6
          have HRF6 := Lib.hid (show RF w q m w4.heap.size v' (had ++ [i]) w6 from
            ⟨(hbb.block q HQL.out).trans HRF5.out.bx, by rw [up_snoc]; exact ho6, HRF5.out.bel.trans (hbb.mono HBS.out), Nat.le_trans HRF5.out.le hbb.size⟩)
          have HLV := Lib.hid (show lenW v' = had.length + 1 from by rw [lenW_own ho6, List.length_append, up_len]; rfl)
          clear ho6 hb6 hs6 hbb HAT
          have e1 : (i : Int) + 1 - 1 = (i : Int) := by omega
          go_wp2_with fail
          refine (rwith_val K i (Sm.add K (i : Nat)) w6 HBT.out.lt HI64.out rfl).mono ?_
          rintro r w7 ⟨rfl, hw⟩
          subst hw
          go_wp2
          exact ⟨⟨had ++ [i], Sm.add K (i : Nat), rfl, HBT.out.more HI64.out, HSR.out.step HNX.out, HRF6.out⟩, by show (crL L).length - lenW v' < (crL L).length - had.length; rw [HLV.out]; have := HLT.out; omega⟩
        · have hlt' : ¬ (had.length : Int) < ((crL L).length : Int) := by omega
          have HD := Lib.hid (show had = findO (eL L) (crL L).length from by
            have h1 := HSR.out.fin
            have h2 := HSR.out.le
            rw [show (crL L).length - had.length = 0 by omega] at h1
            exact h1)
          subst hv7
          go_wp2
          go_ret2
          refine ⟨_, by rw [HFB.out]; rfl, ?_, HRF.out.bel⟩
          rw [fndO_yes HFB.out]
          unfold fndL
          rw [← HD.out]
          exact HRF.out.ow.mono HBS.out
end Go.Proofs.YtaonepbongbhoaaGreat.Jd
namespace Go.Proofs.YtaonepbongbhoaaGreat.Jd
open Go.RowKit
open Az
open Hi (Ev Cr encE encR crs crL entL entF beL idsL right_r ids_r spans_r entries_r)
open Rp (Ent Xc encX ItAt RdX vtY few allN allS firsts cl entA)
set_option maxHeartbeats 1000000 in
theorem rbefore_c (a b c d : Nat) (v : Bool) (h : decide (b < c) = v) (w : World) : Calls Tryz.prog 33 #[.agg #[.int .i64 (a : Nat), .int .i64 (b : Nat), .bool true], .agg #[.int .i64 (c : Nat), .int .i64 (d : Nat), .bool true]] w fun r w' => r = .returned (.bool v) ∧ Below w.heap.size w w' := by
  have HB := Lib.hid (show Below w.heap.size w ((w.alloc (.cells #[.int .i64 (a : Nat), .int .i64 (b : Nat), .bool true] 69)).alloc (.cells #[.int .i64 (c : Nat), .int .i64 (d : Nat), .bool true] 69)) from (Rn.below_new _ _).alloc (by simp) _)
  subst h
  by_cases hlt : b < c
  · have h1 : (b : Int) < (c : Int) := by omega
    have HD := Lib.hid (show decide (b < c) = true by simpa using hlt)
    clear hlt
    go_enter Tryz.func33, Tryz.ntmps33
    go_wp2
    go_ret
    exact ⟨by rw [HD.out]; rfl, HB.out⟩
  · have h1 : ¬ (b : Int) < (c : Int) := by omega
    have HD := Lib.hid (show decide (b < c) = false by simpa using hlt)
    clear hlt
    go_enter Tryz.func33, Tryz.ntmps33
    go_wp2
    go_ret
    exact ⟨by rw [HD.out]; rfl, HB.out⟩
theorem be_at {l : List Cr} {j : Nat} {c : Cr} (h : l[j]? = some c) : (beL l)[j]? = some (c.b, c.e) := by unfold Hi.beL; rw [List.getElem?_map, h]; rfl
theorem at3 {w : World} {A : Option Addr} {X : List (Nat × Nat)} (h : Rn.At encR w A X) {j : Nat} {x : Nat × Nat} (hx : X[j]? = some x) : ∃ ad, A = some ad ∧ w.cell? (ad.add (j * 3)) = some (.int .i64 (x.1 : Nat)) ∧ w.cell? ⟨(ad.add (j * 3)).block, (ad.add (j * 3)).off + 1, none⟩ = some (.int .i64 (x.2 : Nat)) ∧ w.cell? ⟨(ad.add (j * 3)).block, (ad.add (j * 3)).off + 2, none⟩ = some (.bool true) := by
  obtain ⟨ad, e, hc⟩ := h.get hx
  refine ⟨ad, e, hc 0 _ rfl, ?_, ?_⟩
  · rw [← Rn.add_lit ad (j * 3) 0]; exact hc 1 _ rfl
  · rw [← Rn.add_lit ad (j * 3) 1]; exact hc 2 _ rfl
/-- what the document's Fits has: what lay there since a world, and the row that grows. -/
structure RQ (w wb : World) (O S E : Option Addr) (o : List Int) (L : List Ev) (X : List Xc) (v : Value) (Y : List Xc) (W : World) : Prop where
  fo : Rn.At Hi.encI wb O o
  fs : Rn.At encR wb S (beL (crL L))
  fe : ItAt wb E X (entL L)
  fb : Below w.heap.size w wb
  row : Rn.Own encX W wb.heap.size 72 v Y
  rd : ∀ y ∈ Y, RdX wb y
  sin : Below wb.heap.size wb W
section
variable {w wb : World} {O S E : Option Addr} {o : List Int} {L : List Ev} {X : List Xc} {v : Value} {Y : List Xc} {W : World}
theorem RQ.below {W' : World} (h : RQ w wb O S E o L X v Y W) (hb : Below W.heap.size W W') : RQ w wb O S E o L X v Y W' :=
  ⟨h.fo, h.fs, h.fe, h.fb, h.row.below hb (Nat.le_refl _), h.rd, h.sin.trans (hb.mono h.sin.size)⟩
theorem RQ.drew (h : RQ w wb O S E o L X v Y W) : RQ w wb O S E o L X v Y W.drew := h.below (Below.refl _ _).drew
theorem RQ.ord (h : RQ w wb O S E o L X v Y W) : Rn.At Hi.encI W O o := h.fo.below h.sin (Nat.le_refl _)
theorem RQ.sp (h : RQ w wb O S E o L X v Y W) : Rn.At encR W S (beL (crL L)) := h.fs.below h.sin (Nat.le_refl _)
theorem RQ.ents (h : RQ w wb O S E o L X v Y W) : ItAt W E X (entL L) := h.fe.below h.sin (Nat.le_refl _)
theorem RQ.bel (h : RQ w wb O S E o L X v Y W) : Below w.heap.size w W := h.fb.trans (h.sin.mono h.fb.size)
theorem RQ.le (h : RQ w wb O S E o L X v Y W) : wb.heap.size ≤ W.heap.size := h.sin.size
theorem RQ.more {W' : World} {v' : Value} {y : Xc} (h : RQ w wb O S E o L X v Y W) (hb : Below wb.heap.size W W') (ho : Rn.Own encX W' wb.heap.size 72 v' (Y ++ [y])) (hy : RdX wb y) : RQ w wb O S E o L X v' (Y ++ [y]) W' :=
  ⟨h.fo, h.fs, h.fe, h.fb, ho, fun z hz => by
    rcases List.mem_append.1 hz with hz | hz
    · exact h.rd z hz
    · rw [List.mem_singleton] at hz; rw [hz]; exact hy, h.sin.trans hb⟩
end
/-- the first k are whom there is, each may stand behind those ahead of it. -/
structure Pf (l : List Cr) (o : List Int) (k : Nat) : Prop where
  inn : ∀ x ∈ o.take k, 1 ≤ x ∧ x ≤ (l.length : Int)
  pw : (o.take k).Pairwise (Ah l)
theorem pf_zero (l : List Cr) (o : List Int) : Pf l o 0 := ⟨by simp, by simp⟩
theorem Pf.more {l : List Cr} {o : List Int} {k : Nat} {x : Int} (h : Pf l o k) (hx : o[k]? = some x) (h1 : 1 ≤ x ∧ x ≤ (l.length : Int)) (h2 : ∀ (q : Nat) (y : Int), q < k → o[q]? = some y → Ah l y x) : Pf l o (k + 1) := by
  have e : o.take (k + 1) = o.take k ++ [x] := Rn.step_take hx
  refine ⟨fun y hy => ?_, ?_⟩
  · rw [e, List.mem_append] at hy
    rcases hy with hy | hy
    · exact h.inn y hy
    · rw [List.mem_singleton] at hy; rw [hy]; exact h1
  · rw [e, List.pairwise_append]
    refine ⟨h.pw, by simp, fun a ha b hb => ?_⟩
    rw [List.mem_singleton] at hb
    subst hb
    obtain ⟨q, hq⟩ := List.mem_iff_getElem?.1 ha
    have hql := (List.getElem?_eq_some_iff.1 hq).1
    rw [List.length_take] at hql
    rw [List.getElem?_take_of_lt (by omega)] at hq
    exact h2 q a (by omega) hq
theorem pf_fit {L : List Ev} {o : List Int} (hs : (crs L).isSome = true) (hl : o.length = (crL L).length) (h : Pf (crL L) o o.length) : Fit L o ↔ allN S0 (rowO L o) = -1 := by
  have hi := h.inn
  have hp := h.pw
  rw [List.take_length] at hi hp
  have key : allN S0 (rowO L o) = -1 ↔ Rp.allI S0 (rowO L o) = none := by
    unfold Rp.allN
    cases Rp.allI S0 (rowO L o) with
    | none => simp
    | some k => simp
  rw [key, fit_iff]
  exact ⟨fun q => q.2.2.2.2, fun q => ⟨hs, hl, hi, hp, q⟩⟩
def RoRel (w : World) (O S E : Option Addr) (o : List Int) (L : List Ev) (X : List Xc) (wb : World) (v i : Value) (wr : World) : Prop := ∃ (k : Nat) (Y : List Xc), k ≤ o.length ∧ i = .int .i64 k ∧ RQ w wb O S E o L X v Y wr ∧ Y.map (·.e) = (rowO L o).take k ∧ Pf (crL L) o k
def RiRel (w : World) (O S E : Option Addr) (o : List Int) (L : List Ev) (X : List Xc) (wb : World) (v : Value) (Y : List Xc) (p : Nat) (x : Int) (i : Value) (wr : World) : Prop := ∃ k : Nat, k ≤ p ∧ i = .int .i64 k ∧ RQ w wb O S E o L X v Y wr ∧ ∀ (q : Nat) (y : Int), q < k → o[q]? = some y → Ah (crL L) y x
set_option maxRecDepth 100000 in
set_option maxHeartbeats 8000000 in
theorem rfits_any (A B : Option Addr) (c d : Nat) (L : List Ev) (o : List Int) (w : World) (h : Rn.At encE w A L) (hok : ∀ e ∈ L, e.ok) (hl : L.length ≤ 300) (hc : L.length ≤ c) (hcm : c ≤ maxLen) (hB : Rn.At Hi.encI w B o) (ho2 : o.length ≤ 100000) :
    Calls Tryz.prog 9 #[.slice A L.length c, .slice B o.length d] w fun r w' => r = .returned (.bool (fitB L o)) ∧ Below w.heap.size w w' := by
  have H := Lib.hid h
  have HO := Lib.hid hB
  have HOK := Lib.hid hok
  have HL := Lib.hid (show L.length ≤ 2000 from by omega)
  have HL3 := Lib.hid hl
  have HC := Lib.hid (show L.length ≤ c ∧ c ≤ maxLen from ⟨hc, hcm⟩)
  have HN32 := Lib.hid (Hi.crL_ok HL.out).2
  have hoN : (o.length : Int) ≤ 100000 := by omega
  have HO2 := Lib.hid ho2
  have HFI := Lib.hid (fit_iff (L := L) (o := o))
  have HRI := Lib.hid (right_r A c L)
  clear h hok hl hc hcm hB ho2
  generalize hff : fitB L o = ff
  have HFF := Lib.hid hff
  clear hff
  go_enter Tryz.func9, Tryz.ntmps9
  go_wp2_with fail
  refine (ids_r A c L w H.out HL3.out HC.out.1 HC.out.2).mono ?_
  rintro r w1 ⟨BI, dI, rfl, _, _, _, hb1⟩
  have HB1 := Lib.hid hb1
  clear hb1
  rw [show (idsL (crL L).length).length = (crL L).length from by simp [idsL]]
  go_wp2_with fail
  refine (HRI.out w1 (H.out.below HB1.out (Nat.le_refl _)) HL3.out HC.out.1 HC.out.2).mono ?_
  rintro r w2 ⟨rfl, hb2⟩
  have HB2 := Lib.hid (HB1.out.trans (hb2.mono HB1.out.size))
  clear hb2 HB1
  cases hcs : (crs L).isSome with
  | false =>
    have HE := Lib.hid (show ff = false from by rw [← HFF.out]; exact fitB_no fun q => by have := q.is; rw [hcs] at this; cases this)
    clear hcs
    go_wp2
    go_ret
    exact ⟨by rw [HE.out]; rfl, HB2.out⟩
  | true =>
    have HCS := Lib.hid hcs
    clear hcs
    by_cases hne : o.length = (crL L).length
    · have HNE := Lib.hid hne
      have b0 : ((o.length : Int) != ((crL L).length : Int)) = false := by rw [hne]; simp
      clear hne
      go_wp2_with fail
      refine (spans_r A c L w2 (H.out.below HB2.out (Nat.le_refl _)) HL3.out HC.out.1 HC.out.2).mono ?_
      rintro r w3 ⟨S, dS, rfl, _, _, hs3, hb3⟩
      have HB3 := Lib.hid (HB2.out.trans (hb3.mono HB2.out.size))
      have HS3 := Lib.hid hs3
      clear hb3 hs3
      rw [show (beL (crL L)).length = (crL L).length from by unfold Hi.beL; rw [List.length_map]]
      go_wp2_with fail
      refine (entries_r A c L w3 (H.out.below HB3.out (Nat.le_refl _)) HOK.out HL3.out HC.out.1 HC.out.2).mono ?_
      rintro r w4 ⟨E, dE, X, rfl, _, _, hit, hb4⟩
      have HQ0 := Lib.hid (show RQ w w4 B S E o L X (.slice none 0 0) [] w4 from ⟨HO.out.below (HB3.out.trans (hb4.mono HB3.out.size)) (Nat.le_refl _), at_below HS3.out hb4, hit, HB3.out.trans (hb4.mono HB3.out.size), Rn.Own.nil _ _ _, by simp, Below.refl _ _⟩)
      have HIT := Lib.hid hit
      clear hit hb4
      rw [entL_len]
      have hnN : ((crL L).length : Int) ≤ 32 := by have := HN32.out; omega
      go_wp2
      go_loopw [8, 9] (RoRel w B S E o L X w4) (fun _ i _ => o.length - (intOf i).toNat)
      case atStart => exact ⟨0, [], Nat.zero_le _, rfl, HQ0.out, by simp, pf_zero _ _⟩
      case round =>
        obtain ⟨p, Y, hp, rfl, hq, hye, hpf⟩ := hrel
        have HQ := Lib.hid hq
        have HYE := Lib.hid hye
        have HPF := Lib.hid hpf
        clear hq hye hpf
        by_cases hlt : p < o.length
        · obtain ⟨x, hx⟩ : ∃ x, o[p]? = some x := ⟨_, List.getElem?_eq_getElem hlt⟩
          obtain ⟨ad, hBe, c0⟩ := atI HQ.out.ord hx
          have HX := Lib.hid hx
          have HPL := Lib.hid hlt
          have HBE := Lib.hid hBe
          subst hBe
          clear HBE
          have hlt' : (p : Int) < (o.length : Int) := by omega
          have h0 : (0 : Int) ≤ (p : Int) := by omega
          by_cases hx1 : x < 1
          · have HE := Lib.hid (show ff = false from by rw [← HFF.out]; exact fitB_no fun q => by have := q.inn x (List.mem_of_getElem? hx); omega)
            clear hx
            go_wp2
            go_ret
            exact ⟨by rw [HE.out]; rfl, HQ.out.bel⟩
          · by_cases hx2 : x > ((crL L).length : Int)
            · have HE := Lib.hid (show ff = false from by rw [← HFF.out]; exact fitB_no fun q => by have := q.inn x (List.mem_of_getElem? hx); omega)
              have hx2' : ((crL L).length : Int) < x := by omega
              clear hx
              go_wp2
              go_ret
              exact ⟨by rw [HE.out]; rfl, HQ.out.bel⟩
            · obtain ⟨jx, rfl⟩ : ∃ jx : Nat, x = (jx : Int) + 1 := ⟨(x - 1).toNat, by omega⟩
              have hjx : jx < (crL L).length := by omega
              obtain ⟨cx, hcx⟩ : ∃ cx, (crL L)[jx]? = some cx := ⟨_, List.getElem?_eq_getElem hjx⟩
              have HCX := Lib.hid hcx
              have HJX := Lib.hid hjx
              have hx2' : ¬ ((crL L).length : Int) < (jx : Int) + 1 := by omega
              clear hx hcx
              obtain ⟨wo, hwo⟩ : ∃ wo, wo = wr := ⟨_, rfl⟩
              subst hwo
              go_wp2
              go_loopw [10] (RiRel w (some ad) S E o L X w4 u8 Y p ((jx : Int) + 1)) (fun i _ => p - (intOf i).toNat)
              case atStart => exact ⟨0, Nat.zero_le _, rfl, HQ.out, fun q y hq => absurd hq (Nat.not_lt_zero _)⟩
              case round =>
                obtain ⟨k, hk, rfl, hq, hah⟩ := hrel
                have HQ := Lib.hid hq
                have HAH := Lib.hid hah
                clear hq hah
                by_cases hlt2 : k < p
                · have hko : k < o.length := by have := HPL.out; omega
                  obtain ⟨y, hy⟩ : ∃ y, o[k]? = some y := ⟨_, List.getElem?_eq_getElem hko⟩
                  have hyi := HPF.out.inn y (by
                    rw [List.mem_iff_getElem?]
                    exact ⟨k, by rw [List.getElem?_take_of_lt hlt2]; exact hy⟩)
                  obtain ⟨jy, rfl⟩ : ∃ jy : Nat, y = (jy : Int) + 1 := ⟨(y - 1).toNat, by omega⟩
                  have hjy : jy < (crL L).length := by omega
                  obtain ⟨cy, hcy⟩ : ∃ cy, (crL L)[jy]? = some cy := ⟨_, List.getElem?_eq_getElem hjy⟩
                  obtain ⟨sd, rfl, _⟩ := at3 HQ.out.sp (be_at HCX.out)
                  have HY := Lib.hid hy
                  have HCY := Lib.hid hcy
                  have HK2 := Lib.hid hlt2
                  have hlt2' : (k : Int) < (p : Int) := by omega
                  have hk0 : (0 : Int) ≤ (k : Int) := by omega
                  have hkO : (k : Int) < (o.length : Int) := by omega
                  have hx1' : (jx : Int) < ((crL L).length : Int) := by have := HJX.out; omega
                  have hy1' : (jy : Int) < ((crL L).length : Int) := by omega
                  have hjx0 : (0 : Int) ≤ (jx : Int) := by omega
                  have hjy0 : (0 : Int) ≤ (jy : Int) := by omega
                  have W1 : IntKind.i64.wrap (jx : Int) = (jx : Int) := by rw [IntKind.wrap_i64]; omega
                  have W2 : IntKind.i64.wrap (jy : Int) = (jy : Int) := by rw [IntKind.wrap_i64]; omega
                  have e1 : (jx : Int) + 1 - 1 = (jx : Int) := by omega
                  have e2 : (jy : Int) + 1 - 1 = (jy : Int) := by omega
                  clear hy hcy hyi hjy hko hlt2
                  by_cases hxy : (jy : Int) + 1 = (jx : Int) + 1
                  · have HE := Lib.hid (show ff = false from by rw [← HFF.out]; exact fitB_no fun q => q.ne p k _ _ HK2.out HX.out HY.out hxy)
                    have bx : (((jy : Int) + 1) == ((jx : Int) + 1)) = true := beq_iff_eq.2 hxy
                    have HBX := Lib.hid bx
                    clear hxy bx
                    go_wp2
                    refine wp_region_noPanic ?_
                    refine region_z 28 (fun W => RQ w w4 (some ad) (some sd) E o L X u8 Y W) 28 1000 rfl (by kernel_rfl) (by exact HQ.out.drew) (fun hHeld => ?_)
                    refine take_d [2, 3, 8, 9, 10, 11, 12, 13, 14, 15, 16, 17, 18, 19, 20, 21, 22, 23, 24, 25, 26, 27] 0 54 (.slice (some ad) o.length d) rfl rfl (by kernel_rfl) (by kernel_rfl) (by kernel_rfl) (by kernel_rfl) (fun _ _ _ h => h) (Or.inl ⟨by rfl, by intro W hW; clear hW; go_simp⟩) hHeld ?_
                    simp only [put_laws]
                    refine take_d [2, 3, 8, 9, 10, 11, 12, 13, 14, 15, 16, 17, 18, 19, 20, 21, 22, 23, 24, 25, 26, 27] 1 55 (.int .i64 (k : Nat)) rfl rfl (by kernel_rfl) (by kernel_rfl) (by kernel_rfl) (by kernel_rfl) (fun _ _ _ h => h) (Or.inl ⟨by rfl, by intro W hW; clear hW; go_simp⟩) hHeld ?_
                    simp only [put_laws]
                    refine take_d [3, 8, 9, 10, 11, 12, 13, 14, 15, 16, 17, 18, 19, 20, 21, 22, 23, 24, 25, 26, 27] 2 56 (.pointer (some (ad.add k))) rfl rfl (by kernel_rfl) (by kernel_rfl) (by kernel_rfl) (by kernel_rfl) (fun _ _ _ h => h) (Or.inl ⟨by rfl, by intro W hW; have g0 := hkO; have g1 := hk0; clear hW; go_simp⟩) hHeld ?_
                    simp only [put_laws]
                    refine take_d [8, 9, 10, 11, 12, 13, 14, 15, 16, 17, 18, 19, 20, 21, 22, 23, 24, 25, 26, 27] 3 57 (.int .i64 ((jy : Int) + 1)) rfl rfl (by kernel_rfl) (by kernel_rfl) (by kernel_rfl) (by kernel_rfl) (fun _ _ _ h => h) (Or.inl ⟨by rfl, by intro W hW; have hh := atI hW.ord HY.out; obtain ⟨ad2, hB2, c1⟩ := hh; obtain rfl := Option.some.inj hB2; clear hW; go_simp⟩) hHeld ?_
                    simp only [put_laws]
                    refine take_d [6, 7, 8, 9, 10, 11, 12, 13, 14, 15, 16, 17, 18, 19, 20, 21, 22, 23, 24, 25, 26, 27] 4 58 (.slice (some ad) o.length d) rfl rfl (by kernel_rfl) (by kernel_rfl) (by kernel_rfl) (by kernel_rfl) (fun _ _ _ h => h) (Or.inl ⟨by rfl, by intro W hW; clear hW; go_simp⟩) hHeld ?_
                    simp only [put_laws]
                    refine take_d [6, 7, 8, 9, 10, 11, 12, 13, 14, 15, 16, 17, 18, 19, 20, 21, 22, 23, 24, 25, 26, 27] 5 59 (.int .i64 (p : Nat)) rfl rfl (by kernel_rfl) (by kernel_rfl) (by kernel_rfl) (by kernel_rfl) (fun _ _ _ h => h) (Or.inl ⟨by rfl, by intro W hW; clear hW; go_simp⟩) hHeld ?_
                    simp only [put_laws]
                    refine take_d [7, 8, 9, 10, 11, 12, 13, 14, 15, 16, 17, 18, 19, 20, 21, 22, 23, 24, 25, 26, 27] 6 60 (.pointer (some (ad.add p))) rfl rfl (by kernel_rfl) (by kernel_rfl) (by kernel_rfl) (by kernel_rfl) (fun _ _ _ h => h) (Or.inl ⟨by rfl, by intro W hW; have g0 := hlt'; have g1 := h0; clear hW; go_simp⟩) hHeld ?_
                    simp only [put_laws]
                    refine take_d [8, 9, 10, 11, 12, 13, 14, 15, 16, 17, 18, 19, 20, 21, 22, 23, 24, 25, 26, 27] 7 61 (.int .i64 ((jx : Int) + 1)) rfl rfl (by kernel_rfl) (by kernel_rfl) (by kernel_rfl) (by kernel_rfl) (fun _ _ _ h => h) (Or.inl ⟨by rfl, by intro W hW; have hh := atI hW.ord HX.out; obtain ⟨ad2, hB2, c1⟩ := hh; obtain rfl := Option.some.inj hB2; clear hW; go_simp⟩) hHeld ?_
                    simp only [put_laws]
                    refine take_d [9, 10, 11, 12, 13, 14, 15, 16, 17, 18, 19, 20, 21, 22, 23, 24, 25, 26, 27] 8 62 (.bool true) rfl rfl (by kernel_rfl) (by kernel_rfl) (by kernel_rfl) (by kernel_rfl) (fun _ _ _ h => h) (Or.inl ⟨by rfl, by intro W hW; have b0 := HBX.out; clear hW; go_simp⟩) hHeld ?_
                    simp only [put_laws]
                    refine take_d [10, 11, 12, 13, 14, 15, 16, 17, 18, 19, 20, 21, 22, 23, 24, 25, 26, 27] 9 63 (.bool true) rfl rfl (by kernel_rfl) (by kernel_rfl) (by kernel_rfl) (by kernel_rfl) (fun _ _ _ h => h) (Or.inl ⟨by rfl, by intro W hW; clear hW; go_simp⟩) hHeld ?_
                    simp only [put_laws]
                    refine take_d [16, 17, 26, 27] 10 64 undef rfl rfl (by kernel_rfl) (by kernel_rfl) (by kernel_rfl) (by kernel_rfl) (fun _ _ _ h => h) (Or.inr ⟨by rfl, rfl⟩) hHeld ?_
                    simp only [put_laws]
                    refine take_d [13, 14, 15, 16, 17, 26, 27] 11 65 undef rfl rfl (by kernel_rfl) (by kernel_rfl) (by kernel_rfl) (by kernel_rfl) (fun _ _ _ h => h) (Or.inr ⟨by rfl, rfl⟩) hHeld ?_
                    simp only [put_laws]
                    refine take_d [13, 14, 15, 16, 17, 26, 27] 12 66 undef rfl rfl (by kernel_rfl) (by kernel_rfl) (by kernel_rfl) (by kernel_rfl) (fun _ _ _ h => h) (Or.inr ⟨by rfl, rfl⟩) hHeld ?_
                    simp only [put_laws]
                    refine take_d [14, 15, 16, 17, 26, 27] 13 67 undef rfl rfl (by kernel_rfl) (by kernel_rfl) (by kernel_rfl) (by kernel_rfl) (fun _ _ _ h => h) (Or.inr ⟨by rfl, rfl⟩) hHeld ?_
                    simp only [put_laws]
                    refine take_d [15, 16, 17, 26, 27] 14 68 undef rfl rfl (by kernel_rfl) (by kernel_rfl) (by kernel_rfl) (by kernel_rfl) (fun _ _ _ h => h) (Or.inr ⟨by rfl, rfl⟩) hHeld ?_
                    simp only [put_laws]
                    refine take_d [16, 17, 26, 27] 15 69 undef rfl rfl (by kernel_rfl) (by kernel_rfl) (by kernel_rfl) (by kernel_rfl) (fun _ _ _ h => h) (Or.inr ⟨by rfl, rfl⟩) hHeld ?_
                    simp only [put_laws]
                    refine take_d [17, 26, 27] 16 70 undef rfl rfl (by kernel_rfl) (by kernel_rfl) (by kernel_rfl) (by kernel_rfl) (fun _ _ _ h => h) (Or.inr ⟨by rfl, rfl⟩) hHeld ?_
                    simp only [put_laws]
                    refine take_d [26, 27] 17 71 undef rfl rfl (by kernel_rfl) (by kernel_rfl) (by kernel_rfl) (by kernel_rfl) (fun _ _ _ h => h) (Or.inr ⟨by rfl, rfl⟩) hHeld ?_
                    simp only [put_laws]
                    refine take_d [24, 25, 26, 27] 18 72 undef rfl rfl (by kernel_rfl) (by kernel_rfl) (by kernel_rfl) (by kernel_rfl) (fun _ _ _ h => h) (Or.inr ⟨by rfl, rfl⟩) hHeld ?_
                    simp only [put_laws]
                    refine take_d [21, 22, 23, 24, 25, 26, 27] 19 73 undef rfl rfl (by kernel_rfl) (by kernel_rfl) (by kernel_rfl) (by kernel_rfl) (fun _ _ _ h => h) (Or.inr ⟨by rfl, rfl⟩) hHeld ?_
                    simp only [put_laws]
                    refine take_d [21, 22, 23, 24, 25, 26, 27] 20 74 undef rfl rfl (by kernel_rfl) (by kernel_rfl) (by kernel_rfl) (by kernel_rfl) (fun _ _ _ h => h) (Or.inr ⟨by rfl, rfl⟩) hHeld ?_
                    simp only [put_laws]
                    refine take_d [22, 23, 24, 25, 26, 27] 21 75 undef rfl rfl (by kernel_rfl) (by kernel_rfl) (by kernel_rfl) (by kernel_rfl) (fun _ _ _ h => h) (Or.inr ⟨by rfl, rfl⟩) hHeld ?_
                    simp only [put_laws]
                    refine take_d [23, 24, 25, 26, 27] 22 76 undef rfl rfl (by kernel_rfl) (by kernel_rfl) (by kernel_rfl) (by kernel_rfl) (fun _ _ _ h => h) (Or.inr ⟨by rfl, rfl⟩) hHeld ?_
                    simp only [put_laws]
                    refine take_d [24, 25, 26, 27] 23 77 undef rfl rfl (by kernel_rfl) (by kernel_rfl) (by kernel_rfl) (by kernel_rfl) (fun _ _ _ h => h) (Or.inr ⟨by rfl, rfl⟩) hHeld ?_
                    simp only [put_laws]
                    refine take_d [25, 26, 27] 24 78 undef rfl rfl (by kernel_rfl) (by kernel_rfl) (by kernel_rfl) (by kernel_rfl) (fun _ _ _ h => h) (Or.inr ⟨by rfl, rfl⟩) hHeld ?_
                    simp only [put_laws]
                    refine take_d [26, 27] 25 79 undef rfl rfl (by kernel_rfl) (by kernel_rfl) (by kernel_rfl) (by kernel_rfl) (fun _ _ _ h => h) (Or.inr ⟨by rfl, rfl⟩) hHeld ?_
                    simp only [put_laws]
                    refine take_d [27] 26 80 undef rfl rfl (by kernel_rfl) (by kernel_rfl) (by kernel_rfl) (by kernel_rfl) (fun _ _ _ h => h) (Or.inr ⟨by rfl, rfl⟩) hHeld ?_
                    simp only [put_laws]
                    refine take_d [] 27 81 (.bool true) rfl rfl (by kernel_rfl) (by kernel_rfl) (by kernel_rfl) (by kernel_rfl) (fun _ _ _ h => h) (Or.inl ⟨by rfl, by intro W hW; clear hW; go_simp⟩) hHeld ?_
                    simp only [put_laws]
                    refine anyZ_done (by kernel_rfl) ?_ _
                    refine NoPanic.normal ?_
                    go_wp2
                    go_ret
                    exact ⟨by rw [HE.out]; rfl, hHeld.bel⟩
                  · have bx : (((jy : Int) + 1) == ((jx : Int) + 1)) = false := beq_eq_false_iff_ne.2 hxy
                    have HBX := Lib.hid bx
                    have HXY := Lib.hid hxy
                    clear hxy bx
                    by_cases hbf : cx.e < cy.b
                    · have HE := Lib.hid (show ff = false from by rw [← HFF.out]; exact fitB_no fun q => q.ord p k _ _ cx cy HK2.out HX.out HY.out (by rw [show ((jx : Int) + 1 - 1).toNat = jx by omega]; exact HCX.out) (by rw [show ((jy : Int) + 1 - 1).toNat = jy by omega]; exact HCY.out) hbf)
                      have HBF := Lib.hid (show decide (cx.e < cy.b) = true by simpa using hbf)
                      clear hbf
                      go_wp2
                      refine wp_region_noPanic ?_
                      refine region_z 28 (fun W => RQ w w4 (some ad) (some sd) E o L X u8 Y W) 28 1000 rfl (by kernel_rfl) (by exact HQ.out.drew) (fun hHeld => ?_)
                      refine take_d [2, 3, 8, 9, 10, 11, 12, 13, 14, 15, 16, 17, 18, 19, 20, 21, 22, 23, 24, 25, 26, 27] 0 54 (.slice (some ad) o.length d) rfl rfl (by kernel_rfl) (by kernel_rfl) (by kernel_rfl) (by kernel_rfl) (fun _ _ _ h => h) (Or.inl ⟨by rfl, by intro W hW; clear hW; go_simp⟩) hHeld ?_
                      simp only [put_laws]
                      refine take_d [2, 3, 8, 9, 10, 11, 12, 13, 14, 15, 16, 17, 18, 19, 20, 21, 22, 23, 24, 25, 26, 27] 1 55 (.int .i64 (k : Nat)) rfl rfl (by kernel_rfl) (by kernel_rfl) (by kernel_rfl) (by kernel_rfl) (fun _ _ _ h => h) (Or.inl ⟨by rfl, by intro W hW; clear hW; go_simp⟩) hHeld ?_
                      simp only [put_laws]
                      refine take_d [3, 8, 9, 10, 11, 12, 13, 14, 15, 16, 17, 18, 19, 20, 21, 22, 23, 24, 25, 26, 27] 2 56 (.pointer (some (ad.add k))) rfl rfl (by kernel_rfl) (by kernel_rfl) (by kernel_rfl) (by kernel_rfl) (fun _ _ _ h => h) (Or.inl ⟨by rfl, by intro W hW; have g0 := hkO; have g1 := hk0; clear hW; go_simp⟩) hHeld ?_
                      simp only [put_laws]
                      refine take_d [8, 9, 10, 11, 12, 13, 14, 15, 16, 17, 18, 19, 20, 21, 22, 23, 24, 25, 26, 27] 3 57 (.int .i64 ((jy : Int) + 1)) rfl rfl (by kernel_rfl) (by kernel_rfl) (by kernel_rfl) (by kernel_rfl) (fun _ _ _ h => h) (Or.inl ⟨by rfl, by intro W hW; have hh := atI hW.ord HY.out; obtain ⟨ad2, hB2, c1⟩ := hh; obtain rfl := Option.some.inj hB2; clear hW; go_simp⟩) hHeld ?_
                      simp only [put_laws]
                      refine take_d [6, 7, 8, 9, 10, 11, 12, 13, 14, 15, 16, 17, 18, 19, 20, 21, 22, 23, 24, 25, 26, 27] 4 58 (.slice (some ad) o.length d) rfl rfl (by kernel_rfl) (by kernel_rfl) (by kernel_rfl) (by kernel_rfl) (fun _ _ _ h => h) (Or.inl ⟨by rfl, by intro W hW; clear hW; go_simp⟩) hHeld ?_
                      simp only [put_laws]
                      refine take_d [6, 7, 8, 9, 10, 11, 12, 13, 14, 15, 16, 17, 18, 19, 20, 21, 22, 23, 24, 25, 26, 27] 5 59 (.int .i64 (p : Nat)) rfl rfl (by kernel_rfl) (by kernel_rfl) (by kernel_rfl) (by kernel_rfl) (fun _ _ _ h => h) (Or.inl ⟨by rfl, by intro W hW; clear hW; go_simp⟩) hHeld ?_
                      simp only [put_laws]
                      refine take_d [7, 8, 9, 10, 11, 12, 13, 14, 15, 16, 17, 18, 19, 20, 21, 22, 23, 24, 25, 26, 27] 6 60 (.pointer (some (ad.add p))) rfl rfl (by kernel_rfl) (by kernel_rfl) (by kernel_rfl) (by kernel_rfl) (fun _ _ _ h => h) (Or.inl ⟨by rfl, by intro W hW; have g0 := hlt'; have g1 := h0; clear hW; go_simp⟩) hHeld ?_
                      simp only [put_laws]
                      refine take_d [8, 9, 10, 11, 12, 13, 14, 15, 16, 17, 18, 19, 20, 21, 22, 23, 24, 25, 26, 27] 7 61 (.int .i64 ((jx : Int) + 1)) rfl rfl (by kernel_rfl) (by kernel_rfl) (by kernel_rfl) (by kernel_rfl) (fun _ _ _ h => h) (Or.inl ⟨by rfl, by intro W hW; have hh := atI hW.ord HX.out; obtain ⟨ad2, hB2, c1⟩ := hh; obtain rfl := Option.some.inj hB2; clear hW; go_simp⟩) hHeld ?_
                      simp only [put_laws]
                      refine take_d [9, 10, 11, 12, 13, 14, 15, 16, 17, 18, 19, 20, 21, 22, 23, 24, 25, 26, 27] 8 62 (.bool false) rfl rfl (by kernel_rfl) (by kernel_rfl) (by kernel_rfl) (by kernel_rfl) (fun _ _ _ h => h) (Or.inl ⟨by rfl, by intro W hW; have b0 := HBX.out; clear hW; go_simp⟩) hHeld ?_
                      simp only [put_laws]
                      refine take_d [10, 11, 12, 13, 14, 15, 16, 17, 18, 19, 20, 21, 22, 23, 24, 25, 26, 27] 9 63 (.bool false) rfl rfl (by kernel_rfl) (by kernel_rfl) (by kernel_rfl) (by kernel_rfl) (fun _ _ _ h => h) (Or.inl ⟨by rfl, by intro W hW; clear hW; go_simp⟩) hHeld ?_
                      simp only [put_laws]
                      refine take_d [16, 17, 26, 27] 10 64 (.slice (some sd) (crL L).length dS) rfl rfl (by kernel_rfl) (by kernel_rfl) (by kernel_rfl) (by kernel_rfl) (fun _ _ _ h => h) (Or.inl ⟨by rfl, by intro W hW; clear hW; go_simp⟩) hHeld ?_
                      simp only [put_laws]
                      refine take_d [13, 14, 15, 16, 17, 26, 27] 11 65 (.slice (some ad) o.length d) rfl rfl (by kernel_rfl) (by kernel_rfl) (by kernel_rfl) (by kernel_rfl) (fun _ _ _ h => h) (Or.inl ⟨by rfl, by intro W hW; clear hW; go_simp⟩) hHeld ?_
                      simp only [put_laws]
                      refine take_d [13, 14, 15, 16, 17, 26, 27] 12 66 (.int .i64 (p : Nat)) rfl rfl (by kernel_rfl) (by kernel_rfl) (by kernel_rfl) (by kernel_rfl) (fun _ _ _ h => h) (Or.inl ⟨by rfl, by intro W hW; clear hW; go_simp⟩) hHeld ?_
                      simp only [put_laws]
                      refine take_d [14, 15, 16, 17, 26, 27] 13 67 (.pointer (some (ad.add p))) rfl rfl (by kernel_rfl) (by kernel_rfl) (by kernel_rfl) (by kernel_rfl) (fun _ _ _ h => h) (Or.inl ⟨by rfl, by intro W hW; have g0 := hlt'; have g1 := h0; clear hW; go_simp⟩) hHeld ?_
                      simp only [put_laws]
                      refine take_d [15, 16, 17, 26, 27] 14 68 (.int .i64 ((jx : Int) + 1)) rfl rfl (by kernel_rfl) (by kernel_rfl) (by kernel_rfl) (by kernel_rfl) (fun _ _ _ h => h) (Or.inl ⟨by rfl, by intro W hW; have hh := atI hW.ord HX.out; obtain ⟨ad2, hB2, c1⟩ := hh; obtain rfl := Option.some.inj hB2; clear hW; go_simp⟩) hHeld ?_
                      simp only [put_laws]
                      refine take_d [16, 17, 26, 27] 15 69 (.int .i64 (jx : Nat)) rfl rfl (by kernel_rfl) (by kernel_rfl) (by kernel_rfl) (by kernel_rfl) (fun _ _ _ h => h) (Or.inl ⟨by rfl, by intro W hW; have ee := e1; have ew := W1; clear hW; go_simp⟩) hHeld ?_
                      simp only [put_laws]
                      refine take_d [17, 26, 27] 16 70 (.pointer (some (sd.add (jx * 3)))) rfl rfl (by kernel_rfl) (by kernel_rfl) (by kernel_rfl) (by kernel_rfl) (fun _ _ _ h => h) (Or.inl ⟨by rfl, by intro W hW; have g0 := hx1'; have g1 := hjx0; clear hW; go_simp⟩) hHeld ?_
                      simp only [put_laws]
                      refine take_d [26, 27] 17 71 (.agg #[.int .i64 (cx.b : Nat), .int .i64 (cx.e : Nat), .bool true]) rfl rfl (by kernel_rfl) (by kernel_rfl) (by kernel_rfl) (by kernel_rfl) (fun _ _ _ h => h) (Or.inl ⟨by rfl, by intro W hW; have hh := at3 hW.sp (be_at HCX.out); obtain ⟨sd2, hS2, s0, s1, s2⟩ := hh; obtain rfl := Option.some.inj hS2; clear hW; go_simp⟩) hHeld ?_
                      simp only [put_laws]
                      refine take_d [24, 25, 26, 27] 18 72 (.slice (some sd) (crL L).length dS) rfl rfl (by kernel_rfl) (by kernel_rfl) (by kernel_rfl) (by kernel_rfl) (fun _ _ _ h => h) (Or.inl ⟨by rfl, by intro W hW; clear hW; go_simp⟩) hHeld ?_
                      simp only [put_laws]
                      refine take_d [21, 22, 23, 24, 25, 26, 27] 19 73 (.slice (some ad) o.length d) rfl rfl (by kernel_rfl) (by kernel_rfl) (by kernel_rfl) (by kernel_rfl) (fun _ _ _ h => h) (Or.inl ⟨by rfl, by intro W hW; clear hW; go_simp⟩) hHeld ?_
                      simp only [put_laws]
                      refine take_d [21, 22, 23, 24, 25, 26, 27] 20 74 (.int .i64 (k : Nat)) rfl rfl (by kernel_rfl) (by kernel_rfl) (by kernel_rfl) (by kernel_rfl) (fun _ _ _ h => h) (Or.inl ⟨by rfl, by intro W hW; clear hW; go_simp⟩) hHeld ?_
                      simp only [put_laws]
                      refine take_d [22, 23, 24, 25, 26, 27] 21 75 (.pointer (some (ad.add k))) rfl rfl (by kernel_rfl) (by kernel_rfl) (by kernel_rfl) (by kernel_rfl) (fun _ _ _ h => h) (Or.inl ⟨by rfl, by intro W hW; have g0 := hkO; have g1 := hk0; clear hW; go_simp⟩) hHeld ?_
                      simp only [put_laws]
                      refine take_d [23, 24, 25, 26, 27] 22 76 (.int .i64 ((jy : Int) + 1)) rfl rfl (by kernel_rfl) (by kernel_rfl) (by kernel_rfl) (by kernel_rfl) (fun _ _ _ h => h) (Or.inl ⟨by rfl, by intro W hW; have hh := atI hW.ord HY.out; obtain ⟨ad2, hB2, c1⟩ := hh; obtain rfl := Option.some.inj hB2; clear hW; go_simp⟩) hHeld ?_
                      simp only [put_laws]
                      refine take_d [24, 25, 26, 27] 23 77 (.int .i64 (jy : Nat)) rfl rfl (by kernel_rfl) (by kernel_rfl) (by kernel_rfl) (by kernel_rfl) (fun _ _ _ h => h) (Or.inl ⟨by rfl, by intro W hW; have ee := e2; have ew := W2; clear hW; go_simp⟩) hHeld ?_
                      simp only [put_laws]
                      refine take_d [25, 26, 27] 24 78 (.pointer (some (sd.add (jy * 3)))) rfl rfl (by kernel_rfl) (by kernel_rfl) (by kernel_rfl) (by kernel_rfl) (fun _ _ _ h => h) (Or.inl ⟨by rfl, by intro W hW; have g0 := hy1'; have g1 := hjy0; clear hW; go_simp⟩) hHeld ?_
                      simp only [put_laws]
                      refine take_d [26, 27] 25 79 (.agg #[.int .i64 (cy.b : Nat), .int .i64 (cy.e : Nat), .bool true]) rfl rfl (by kernel_rfl) (by kernel_rfl) (by kernel_rfl) (by kernel_rfl) (fun _ _ _ h => h) (Or.inl ⟨by rfl, by intro W hW; have hh := at3 hW.sp (be_at HCY.out); obtain ⟨sd2, hS2, s0, s1, s2⟩ := hh; obtain rfl := Option.some.inj hS2; clear hW; go_simp⟩) hHeld ?_
                      simp only [put_laws]
                      refine anyZ_ready (rs := [26]) (by kernel_rfl) (by simp) ?_
                      refine AllZ.cons rfl (fun K hK => ?_) AllZ.nil
                      go_simp
                      refine (rbefore_c cx.b cx.e cy.b cy.e true HBF.out _).mono ?_
                      rintro e w5 ⟨rfl, hb⟩
                      try go_simp
                      have hPrev := hHeld
                      have hHeld := hHeld.below hb
                      clear hPrev
                      refine hK.out _ _ hHeld (fun hHeld => ?_)
                      clear hK K
                      refine take_d [] 27 81 (.bool true) rfl rfl (by kernel_rfl) (by kernel_rfl) (by kernel_rfl) (by kernel_rfl) (fun _ _ _ h => h) (Or.inl ⟨by rfl, by intro W hW; clear hW; go_simp⟩) hHeld ?_
                      simp only [put_laws]
                      refine anyZ_done (by kernel_rfl) ?_ _
                      refine NoPanic.normal ?_
                      go_wp2
                      go_ret
                      exact ⟨by rw [HE.out]; rfl, hHeld.bel⟩
                    · have HBF := Lib.hid (show decide (cx.e < cy.b) = false by simpa using hbf)
                      have HNB := Lib.hid hbf
                      clear hbf
                      go_wp2
                      refine wp_region_noPanic ?_
                      refine region_z 28 (fun W => RQ w w4 (some ad) (some sd) E o L X u8 Y W) 28 1000 rfl (by kernel_rfl) (by exact HQ.out.drew) (fun hHeld => ?_)
                      refine take_d [2, 3, 8, 9, 10, 11, 12, 13, 14, 15, 16, 17, 18, 19, 20, 21, 22, 23, 24, 25, 26, 27] 0 54 (.slice (some ad) o.length d) rfl rfl (by kernel_rfl) (by kernel_rfl) (by kernel_rfl) (by kernel_rfl) (fun _ _ _ h => h) (Or.inl ⟨by rfl, by intro W hW; clear hW; go_simp⟩) hHeld ?_
                      simp only [put_laws]
                      refine take_d [2, 3, 8, 9, 10, 11, 12, 13, 14, 15, 16, 17, 18, 19, 20, 21, 22, 23, 24, 25, 26, 27] 1 55 (.int .i64 (k : Nat)) rfl rfl (by kernel_rfl) (by kernel_rfl) (by kernel_rfl) (by kernel_rfl) (fun _ _ _ h => h) (Or.inl ⟨by rfl, by intro W hW; clear hW; go_simp⟩) hHeld ?_
                      simp only [put_laws]
                      refine take_d [3, 8, 9, 10, 11, 12, 13, 14, 15, 16, 17, 18, 19, 20, 21, 22, 23, 24, 25, 26, 27] 2 56 (.pointer (some (ad.add k))) rfl rfl (by kernel_rfl) (by kernel_rfl) (by kernel_rfl) (by kernel_rfl) (fun _ _ _ h => h) (Or.inl ⟨by rfl, by intro W hW; have g0 := hkO; have g1 := hk0; clear hW; go_simp⟩) hHeld ?_
                      simp only [put_laws]
                      refine take_d [8, 9, 10, 11, 12, 13, 14, 15, 16, 17, 18, 19, 20, 21, 22, 23, 24, 25, 26, 27] 3 57 (.int .i64 ((jy : Int) + 1)) rfl rfl (by kernel_rfl) (by kernel_rfl) (by kernel_rfl) (by kernel_rfl) (fun _ _ _ h => h) (Or.inl ⟨by rfl, by intro W hW; have hh := atI hW.ord HY.out; obtain ⟨ad2, hB2, c1⟩ := hh; obtain rfl := Option.some.inj hB2; clear hW; go_simp⟩) hHeld ?_
                      simp only [put_laws]
                      refine take_d [6, 7, 8, 9, 10, 11, 12, 13, 14, 15, 16, 17, 18, 19, 20, 21, 22, 23, 24, 25, 26, 27] 4 58 (.slice (some ad) o.length d) rfl rfl (by kernel_rfl) (by kernel_rfl) (by kernel_rfl) (by kernel_rfl) (fun _ _ _ h => h) (Or.inl ⟨by rfl, by intro W hW; clear hW; go_simp⟩) hHeld ?_
                      simp only [put_laws]
                      refine take_d [6, 7, 8, 9, 10, 11, 12, 13, 14, 15, 16, 17, 18, 19, 20, 21, 22, 23, 24, 25, 26, 27] 5 59 (.int .i64 (p : Nat)) rfl rfl (by kernel_rfl) (by kernel_rfl) (by kernel_rfl) (by kernel_rfl) (fun _ _ _ h => h) (Or.inl ⟨by rfl, by intro W hW; clear hW; go_simp⟩) hHeld ?_
                      simp only [put_laws]
                      refine take_d [7, 8, 9, 10, 11, 12, 13, 14, 15, 16, 17, 18, 19, 20, 21, 22, 23, 24, 25, 26, 27] 6 60 (.pointer (some (ad.add p))) rfl rfl (by kernel_rfl) (by kernel_rfl) (by kernel_rfl) (by kernel_rfl) (fun _ _ _ h => h) (Or.inl ⟨by rfl, by intro W hW; have g0 := hlt'; have g1 := h0; clear hW; go_simp⟩) hHeld ?_
                      simp only [put_laws]
                      refine take_d [8, 9, 10, 11, 12, 13, 14, 15, 16, 17, 18, 19, 20, 21, 22, 23, 24, 25, 26, 27] 7 61 (.int .i64 ((jx : Int) + 1)) rfl rfl (by kernel_rfl) (by kernel_rfl) (by kernel_rfl) (by kernel_rfl) (fun _ _ _ h => h) (Or.inl ⟨by rfl, by intro W hW; have hh := atI hW.ord HX.out; obtain ⟨ad2, hB2, c1⟩ := hh; obtain rfl := Option.some.inj hB2; clear hW; go_simp⟩) hHeld ?_
                      simp only [put_laws]
                      refine take_d [9, 10, 11, 12, 13, 14, 15, 16, 17, 18, 19, 20, 21, 22, 23, 24, 25, 26, 27] 8 62 (.bool false) rfl rfl (by kernel_rfl) (by kernel_rfl) (by kernel_rfl) (by kernel_rfl) (fun _ _ _ h => h) (Or.inl ⟨by rfl, by intro W hW; have b0 := HBX.out; clear hW; go_simp⟩) hHeld ?_
                      simp only [put_laws]
                      refine take_d [10, 11, 12, 13, 14, 15, 16, 17, 18, 19, 20, 21, 22, 23, 24, 25, 26, 27] 9 63 (.bool false) rfl rfl (by kernel_rfl) (by kernel_rfl) (by kernel_rfl) (by kernel_rfl) (fun _ _ _ h => h) (Or.inl ⟨by rfl, by intro W hW; clear hW; go_simp⟩) hHeld ?_
                      simp only [put_laws]
                      refine take_d [16, 17, 26, 27] 10 64 (.slice (some sd) (crL L).length dS) rfl rfl (by kernel_rfl) (by kernel_rfl) (by kernel_rfl) (by kernel_rfl) (fun _ _ _ h => h) (Or.inl ⟨by rfl, by intro W hW; clear hW; go_simp⟩) hHeld ?_
                      simp only [put_laws]
                      refine take_d [13, 14, 15, 16, 17, 26, 27] 11 65 (.slice (some ad) o.length d) rfl rfl (by kernel_rfl) (by kernel_rfl) (by kernel_rfl) (by kernel_rfl) (fun _ _ _ h => h) (Or.inl ⟨by rfl, by intro W hW; clear hW; go_simp⟩) hHeld ?_
                      simp only [put_laws]
                      refine take_d [13, 14, 15, 16, 17, 26, 27] 12 66 (.int .i64 (p : Nat)) rfl rfl (by kernel_rfl) (by kernel_rfl) (by kernel_rfl) (by kernel_rfl) (fun _ _ _ h => h) (Or.inl ⟨by rfl, by intro W hW; clear hW; go_simp⟩) hHeld ?_
                      simp only [put_laws]
                      refine take_d [14, 15, 16, 17, 26, 27] 13 67 (.pointer (some (ad.add p))) rfl rfl (by kernel_rfl) (by kernel_rfl) (by kernel_rfl) (by kernel_rfl) (fun _ _ _ h => h) (Or.inl ⟨by rfl, by intro W hW; have g0 := hlt'; have g1 := h0; clear hW; go_simp⟩) hHeld ?_
                      simp only [put_laws]
                      refine take_d [15, 16, 17, 26, 27] 14 68 (.int .i64 ((jx : Int) + 1)) rfl rfl (by kernel_rfl) (by kernel_rfl) (by kernel_rfl) (by kernel_rfl) (fun _ _ _ h => h) (Or.inl ⟨by rfl, by intro W hW; have hh := atI hW.ord HX.out; obtain ⟨ad2, hB2, c1⟩ := hh; obtain rfl := Option.some.inj hB2; clear hW; go_simp⟩) hHeld ?_
                      simp only [put_laws]
                      refine take_d [16, 17, 26, 27] 15 69 (.int .i64 (jx : Nat)) rfl rfl (by kernel_rfl) (by kernel_rfl) (by kernel_rfl) (by kernel_rfl) (fun _ _ _ h => h) (Or.inl ⟨by rfl, by intro W hW; have ee := e1; have ew := W1; clear hW; go_simp⟩) hHeld ?_
                      simp only [put_laws]
                      refine take_d [17, 26, 27] 16 70 (.pointer (some (sd.add (jx * 3)))) rfl rfl (by kernel_rfl) (by kernel_rfl) (by kernel_rfl) (by kernel_rfl) (fun _ _ _ h => h) (Or.inl ⟨by rfl, by intro W hW; have g0 := hx1'; have g1 := hjx0; clear hW; go_simp⟩) hHeld ?_
                      simp only [put_laws]
                      refine take_d [26, 27] 17 71 (.agg #[.int .i64 (cx.b : Nat), .int .i64 (cx.e : Nat), .bool true]) rfl rfl (by kernel_rfl) (by kernel_rfl) (by kernel_rfl) (by kernel_rfl) (fun _ _ _ h => h) (Or.inl ⟨by rfl, by intro W hW; have hh := at3 hW.sp (be_at HCX.out); obtain ⟨sd2, hS2, s0, s1, s2⟩ := hh; obtain rfl := Option.some.inj hS2; clear hW; go_simp⟩) hHeld ?_
                      simp only [put_laws]
                      refine take_d [24, 25, 26, 27] 18 72 (.slice (some sd) (crL L).length dS) rfl rfl (by kernel_rfl) (by kernel_rfl) (by kernel_rfl) (by kernel_rfl) (fun _ _ _ h => h) (Or.inl ⟨by rfl, by intro W hW; clear hW; go_simp⟩) hHeld ?_
                      simp only [put_laws]
                      refine take_d [21, 22, 23, 24, 25, 26, 27] 19 73 (.slice (some ad) o.length d) rfl rfl (by kernel_rfl) (by kernel_rfl) (by kernel_rfl) (by kernel_rfl) (fun _ _ _ h => h) (Or.inl ⟨by rfl, by intro W hW; clear hW; go_simp⟩) hHeld ?_
                      simp only [put_laws]
                      refine take_d [21, 22, 23, 24, 25, 26, 27] 20 74 (.int .i64 (k : Nat)) rfl rfl (by kernel_rfl) (by kernel_rfl) (by kernel_rfl) (by kernel_rfl) (fun _ _ _ h => h) (Or.inl ⟨by rfl, by intro W hW; clear hW; go_simp⟩) hHeld ?_
                      simp only [put_laws]
                      refine take_d [22, 23, 24, 25, 26, 27] 21 75 (.pointer (some (ad.add k))) rfl rfl (by kernel_rfl) (by kernel_rfl) (by kernel_rfl) (by kernel_rfl) (fun _ _ _ h => h) (Or.inl ⟨by rfl, by intro W hW; have g0 := hkO; have g1 := hk0; clear hW; go_simp⟩) hHeld ?_
                      simp only [put_laws]
                      refine take_d [23, 24, 25, 26, 27] 22 76 (.int .i64 ((jy : Int) + 1)) rfl rfl (by kernel_rfl) (by kernel_rfl) (by kernel_rfl) (by kernel_rfl) (fun _ _ _ h => h) (Or.inl ⟨by rfl, by intro W hW; have hh := atI hW.ord HY.out; obtain ⟨ad2, hB2, c1⟩ := hh; obtain rfl := Option.some.inj hB2; clear hW; go_simp⟩) hHeld ?_
                      simp only [put_laws]
                      refine take_d [24, 25, 26, 27] 23 77 (.int .i64 (jy : Nat)) rfl rfl (by kernel_rfl) (by kernel_rfl) (by kernel_rfl) (by kernel_rfl) (fun _ _ _ h => h) (Or.inl ⟨by rfl, by intro W hW; have ee := e2; have ew := W2; clear hW; go_simp⟩) hHeld ?_
                      simp only [put_laws]
                      refine take_d [25, 26, 27] 24 78 (.pointer (some (sd.add (jy * 3)))) rfl rfl (by kernel_rfl) (by kernel_rfl) (by kernel_rfl) (by kernel_rfl) (fun _ _ _ h => h) (Or.inl ⟨by rfl, by intro W hW; have g0 := hy1'; have g1 := hjy0; clear hW; go_simp⟩) hHeld ?_
                      simp only [put_laws]
                      refine take_d [26, 27] 25 79 (.agg #[.int .i64 (cy.b : Nat), .int .i64 (cy.e : Nat), .bool true]) rfl rfl (by kernel_rfl) (by kernel_rfl) (by kernel_rfl) (by kernel_rfl) (fun _ _ _ h => h) (Or.inl ⟨by rfl, by intro W hW; have hh := at3 hW.sp (be_at HCY.out); obtain ⟨sd2, hS2, s0, s1, s2⟩ := hh; obtain rfl := Option.some.inj hS2; clear hW; go_simp⟩) hHeld ?_
                      simp only [put_laws]
                      refine anyZ_ready (rs := [26]) (by kernel_rfl) (by simp) ?_
                      refine AllZ.cons rfl (fun K hK => ?_) AllZ.nil
                      go_simp
                      refine (rbefore_c cx.b cx.e cy.b cy.e false HBF.out _).mono ?_
                      rintro e w5 ⟨rfl, hb⟩
                      try go_simp
                      have hPrev := hHeld
                      have hHeld := hHeld.below hb
                      clear hPrev
                      refine hK.out _ _ hHeld (fun hHeld => ?_)
                      clear hK K
                      refine take_d [] 27 81 (.bool false) rfl rfl (by kernel_rfl) (by kernel_rfl) (by kernel_rfl) (by kernel_rfl) (fun _ _ _ h => h) (Or.inl ⟨by rfl, by intro W hW; clear hW; go_simp⟩) hHeld ?_
                      simp only [put_laws]
                      refine anyZ_done (by kernel_rfl) ?_ _
                      refine NoPanic.normal ?_
                      have HQ5 := Lib.hid hHeld
                      clear hHeld
                      go_wp2
                      go_round
                      case rel => exact ⟨k + 1, by have := HK2.out; omega, by go_num, HQ5.out, fun q y hq hy => by
                        by_cases e : q = k
                        · subst e
                          rw [HY.out] at hy
                          obtain rfl := Option.some.inj hy
                          refine ⟨HXY.out, fun c d hc hd => ?_⟩
                          rw [show ((jx : Int) + 1 - 1).toNat = jx by omega, HCX.out] at hc
                          rw [show ((jy : Int) + 1 - 1).toNat = jy by omega, HCY.out] at hd
                          obtain rfl := Option.some.inj hc
                          obtain rfl := Option.some.inj hd
                          exact HNB.out
                        · exact HAH.out q y (by omega) hy⟩
                      case measure => simp [intOf]; have := HK2.out; omega
                · have hlt2' : ¬ (k : Int) < (p : Int) := by omega
                  obtain rfl : k = p := by omega
                  obtain ⟨ae, y, hAe, hXk, hek, hrd, h5⟩ := HQ.out.ents.at_ (j := jx) (by rw [entL_len]; exact HJX.out)
                  have hye : y.e = entF L (crL L) jx := by
                    have := hek.symm.trans (entL_at HJX.out)
                    exact Option.some.inj this
                  obtain ⟨e0, e1, e2, e3, e4⟩ := h5
                  have HYE2 := Lib.hid hye
                  have HRD := Lib.hid (HQ.out.fe.rd y (List.mem_of_getElem? hXk))
                  subst hAe
                  have hx1' : (jx : Int) < ((crL L).length : Int) := by have := HJX.out; omega
                  have hjx0 : (0 : Int) ≤ (jx : Int) := by omega
                  have e5 : (jx : Int) + 1 - 1 = (jx : Int) := by omega
                  have HAT := Lib.hid (show Rn.At encX (wr.alloc (.cells (entA y) 72)) (some ⟨wr.heap.size, 0, none⟩) [y] from Rn.At.new wr y (entA y) rfl 72 rfl)
                  have HYL := Lib.hid (show Y.length = k from by
                    have := congrArg List.length HYE.out
                    rw [List.length_map, List.length_take, rowO_len] at this
                    have := HPL.out; omega)
                  unfold Rp.entA at HAT
                  clear hek hXk hrd hye c0
                  obtain ⟨ad3, hB3, c0⟩ := atI HQ.out.ord HX.out
                  obtain rfl := Option.some.inj hB3
                  clear hB3
                  go_wp2_with (at_builtin; refine Rn.append_row encX vtY rfl _ _ rfl rfl (HQ.out.row.alloc _) _ _ [y] rfl rfl HAT.out ?c1 ?c2 ?_)
                  case c1 => have := HPL.out; have := HO2.out; have := HYL.out; have := HNE.out; have := HN32.out; simp; omega
                  case c2 => have := HQ.out.le; simp; omega
                  intro v' w6 ho6 hb6 hs6
                  have HQ6 := Lib.hid (HQ.out.more (((Below.refl _ _).alloc HQ.out.le _).trans hb6) ho6 HRD.out)
                  clear ho6 hb6 hs6 c0 e0 e1 e2 e3 e4
                  go_wp2
                  exact ⟨⟨k + 1, Y ++ [y], by have := HPL.out; omega, by go_num, HQ6.out, by
                    rw [List.map_append, HYE.out, Rn.step_take (rowO_at HX.out), show ((jx : Int) + 1 - 1).toNat = jx by omega, ← HYE2.out]; rfl,
                    HPF.out.more HX.out ⟨by omega, by have := HJX.out; omega⟩ HAH.out⟩, by simp [intOf]; have := HPL.out; omega⟩
        · have hlt' : ¬ (p : Int) < (o.length : Int) := by omega
          obtain rfl : p = o.length := by omega
          have HPFT := Lib.hid (pf_fit HCS.out HNE.out HPF.out)
          obtain ⟨AR, cR, hv8, h8a, h8b, h8c, _⟩ := HQ.out.row.slice
          have HES := Lib.hid (show Y.map (·.e) = rowO L o from by rw [HYE.out, List.take_of_length_le (by rw [rowO_len]; exact Nat.le_refl _)])
          have hyl : Y.length = o.length := by have := congrArg List.length HES.out; rw [List.length_map, rowO_len] at this; exact this
          have HRI2 := Lib.hid (show ItAt wr AR Y (rowO L o) from ⟨h8c, HES.out, fun y hy => (HQ.out.rd y hy).below HQ.out.sin (Nat.le_refl _)⟩)
          rw [hyl] at hv8
          subst hv8
          clear h8a h8b h8c hyl
          obtain ⟨S1, hS⟩ : ∃ S1, S1 = S0 := ⟨_, rfl⟩
          have HS1 := Lib.hid (show S1.length ≤ 300 from by rw [hS]; decide)
          have HCL := Lib.hid (show firsts (cl 64) = S1 from by rw [hS, show cl 64 = 64 from by decide]; rfl)
          rw [← hS] at HPFT
          clear hS
          go_wp2_with fail
          refine (Rp.rbegin_any 64 wr).mono ?_
          rintro r w7 ⟨vb, rfl, hown, hb⟩
          obtain ⟨AB, cB, rfl, hc1, hc2, hAB, _⟩ := hown.slice
          rw [HCL.out] at hAB hc1 ⊢
          have HB7 := Lib.hid (HQ.out.bel.trans (hb.mono HQ.out.bel.size))
          have HR7 := Lib.hid (HRI2.out.below hb (Nat.le_refl _))
          have HAL := Rp.rall_any AB AR cB cR S1 (allS S1 (rowO L o)) (allN S1 (rowO L o)) _ (rowO L o) w7 hAB HR7.out (rowO_few L o) (by rw [rowO_len]; have := HO2.out; have := HNE.out; have := HN32.out; omega) HS1.out hc1 hc2 rfl rfl
          rw [rowO_len] at HAL
          have HAL := Lib.hid HAL
          clear hown hb hAB hc1 hc2
          go_wp2_with fail
          refine HAL.out.mono ?_
          rintro r w8 ⟨B9, d9, rfl, _, hb⟩
          have HB8 := Lib.hid (HB7.out.trans (hb.mono HB7.out.size))
          clear hb
          by_cases hq : allN S1 (rowO L o) = -1
          · have HE := Lib.hid (show ff = true from by rw [← HFF.out]; exact fitB_yes (HPFT.out.2 hq))
            have b0 : (allN S1 (rowO L o) == -1) = true := by simpa using hq
            clear hq
            go_wp2
            go_ret
            exact ⟨by rw [HE.out]; rfl, HB8.out⟩
          · have HE := Lib.hid (show ff = false from by rw [← HFF.out]; exact fitB_no fun q => hq (HPFT.out.1 q))
            have b0 : (allN S1 (rowO L o) == -1) = false := by simpa using hq
            clear hq
            go_wp2
            go_ret
            exact ⟨by rw [HE.out]; rfl, HB8.out⟩
    · have HE := Lib.hid (show ff = false from by rw [← HFF.out]; exact fitB_no fun q => hne q.len)
      have b0 : ((o.length : Int) != ((crL L).length : Int)) = true := by simp; omega
      clear hne
      go_wp2
      go_ret
      exact ⟨by rw [HE.out]; rfl, HB2.out⟩
end Go.Proofs.YtaonepbongbhoaaGreat.Jd
