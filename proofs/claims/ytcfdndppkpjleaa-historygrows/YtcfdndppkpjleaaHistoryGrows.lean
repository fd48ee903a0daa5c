/-
  HistoryGrows: an event more takes no edge away.
-/
import Derived.Test.YtcfdndppkpjleaaHLaw
import Derived.Test.YtcfdndppkpjleaaHMono
import Derived.Test.YtcfdndppkpjleaaHEqM
namespace Go.Proofs.Ytcfdndppkpjleaa.Hi
open Go.RowKit
open Tx (i64p)
open Az
theorem crL_nil {L : List Ev} (h : (crs L).isSome = false) : crL L = [] := by
  unfold crL
  cases hc : crs L with
  | none => rfl
  | some l => rw [hc] at h; cases h
theorem ge_lt {l : List Cr} (hl : l.length ≤ 32) {i j : Nat} (h : Ge l i j) : i < 32 ∧ j < 32 := by
  obtain ⟨b, c, hc, h⟩ := h
  have hb := (List.getElem?_eq_some_iff.1 hc).1
  rcases h with ⟨rfl, _, d, hd, _⟩ | ⟨x, n, _, ⟨rfl, h, _⟩ | ⟨rfl, _, d, hd, _⟩⟩
  · have := (List.getElem?_eq_some_iff.1 hd).1; omega
  · have := src_lt l x n; omega
  · have := (List.getElem?_eq_some_iff.1 hd).1; omega
theorem is_lt32 {m : Mm.Gr} {l : List Cr} (h : Is m (Ge l)) (hl : l.length ≤ 32) {i : Nat} (hi : i < 32) : m i < 4294967296 := Mm.lt32 fun j hj => (ge_lt hl ((h.is i j hi).1 hj)).2
theorem is_same {m n : Mm.Gr} {G : Nat → Nat → Prop} (h : Is m G) (k : Is n G) : sameM m n = true := (sameM_iff m n).2 fun i hi => Nat.eq_of_testBit_eq fun j => by rw [Bool.eq_iff_iff, h.is i j hi, k.is i j hi]
theorem is_none {m : Mm.Gr} (h : Is m (Ge [])) : sameM m zeroM = true := (sameM_iff m zeroM).2 fun i hi => by
  show m i = 0
  apply Nat.eq_of_testBit_eq
  intro j
  rw [Bool.eq_iff_iff, h.is i j hi]
  simp only [Nat.zero_testBit, Bool.false_eq_true, iff_false]
  rintro ⟨b, c, hc, _⟩
  simp at hc
/-- the beginning of a row that is right. -/
theorem crs_pre {L : List Ev} {k : Nat} (hl : L.length ≤ 2000) (h : (crs L).isSome = true) : ∃ l' l, crs (L.take k) = some l' ∧ crs L = some l ∧ Mr (L.take k).length l' l ∧ Inj l := by
  obtain ⟨l, hc⟩ := Option.isSome_iff_exists.1 h
  have hr := (crs_some hc).2
  have e : L.take k ++ L.drop k = L := List.take_append_drop _ _
  have hr' := hr
  rw [← e] at hr'
  obtain ⟨l', hl'⟩ := run_pre hr'
  have hlt : (L.take k).length ≤ 2000 := by rw [List.length_take]; omega
  exact ⟨l', l, by rw [crs_run hlt]; exact hl', hc, run_mono hl' _ l hr' (by rw [e]; exact hl), run_inj hr hl⟩
theorem ge_pre {L : List Ev} {k : Nat} (hl : L.length ≤ 2000) (h : (crs L).isSome = true) {i j : Nat} (hg : Ge (crL (L.take k)) i j) : Ge (crL L) i j := by
  obtain ⟨l', l, h1, h2, h3, h4⟩ := crs_pre (k := k) hl h
  have e1 : crL (L.take k) = l' := by unfold crL; rw [h1]; rfl
  have e2 : crL L = l := by unfold crL; rw [h2]; rfl
  have hlt : (L.take k).length ≤ 2000 := by rw [List.length_take]; omega
  have o1 := crL_okL hlt
  have o2 := crL_okL hl
  rw [e1] at hg o1
  rw [e2] at o2 ⊢
  exact ge_mono h3 hlt o1 h4 (fun c hc => (o2 c hc).com) (fun c hc => ((o2 c hc).gc hl).1) hg
/-- both matrices. -/
structure GW (w : World) (q : Nat) (m : Mm.Gr) (q2 : Nat) (n : Mm.Gr) (W : World) : Prop where
  a : MatAt W q m 50
  b : MatAt W q2 n 50
  bel : Below w.heap.size w W
theorem GW.below {w : World} {q : Nat} {m : Mm.Gr} {q2 : Nat} {n : Mm.Gr} {W W' : World} (h : GW w q m q2 n W) (hb : Below W.heap.size W W') : GW w q m q2 n W' := ⟨h.a.below hb, h.b.below hb, h.bel.trans (hb.mono h.bel.size)⟩
theorem GW.drew {w : World} {q : Nat} {m : Mm.Gr} {q2 : Nat} {n : Mm.Gr} {W : World} (h : GW w q m q2 n W) : GW w q m q2 n W.drew := h.below (Below.refl _ _).drew
def GWrel (w : World) (q : Nat) (m : Mm.Gr) (q2 : Nat) (n : Mm.Gr) (i : Value) (wr : World) : Prop := ∃ k : Nat, k ≤ 32 ∧ i = .int .i64 k ∧ GW w q m q2 n wr
set_option maxRecDepth 100000 in
set_option maxHeartbeats 8000000 in
theorem historyGrows_walk (A : Option Addr) (n c : Nat) (L : List Ev) (w : World) (h : EvArg w A n c L) :
    Calls Try.prog 8 #[.slice A n c] w fun e w' => e = .returned (.bool true) ∧ Below w.heap.size w w' := by
  obtain ⟨rfl, hnc, hcm, hat, hok⟩ := h
  have H := Lib.hid hat
  have HOK := Lib.hid hok
  have hN : (L.length : Int) ≤ 9223372036854775807 := by unfold maxLen at hcm; omega
  clear hat hok hnc hcm
  by_cases hl : L.length ≤ 120
  · have HL := Lib.hid (show L.length ≤ 2000 from by omega)
    have HL3 := Lib.hid (show L.length ≤ 300 from by omega)
    by_cases hz : L.length = 0
    · rw [hz]
      go_enter Try.func8, Try.ntmps8
      go_wp2_with fail
      refine (alive_any _).mono ?_
      rintro r w1 ⟨rfl, hb1⟩
      have HB1 := Lib.hid hb1
      clear hb1
      go_wp2
      go_ret
      exact ⟨rfl, HB1.out⟩
    · obtain ⟨k, hk⟩ : ∃ k, L.length = k + 1 := ⟨L.length - 1, by omega⟩
      have HK := Lib.hid hk
      have HTK := Lib.hid (show (L.take k).length = k from by rw [List.length_take]; omega)
      have HA0 := Lib.hid (show Rn.At encE w A L from H.out)
      have hd1 : decide (120 < (L.length : Int)) = false := decide_eq_false (by omega)
      have hd2 : ((L.length : Int) == 0) = false := by rw [beq_eq_false_iff_ne]; omega
      clear hz hk
      go_enter Try.func8, Try.ntmps8
      go_wp2_with fail
      refine (alive_any _).mono ?_
      rintro r w1 ⟨rfl, hb1⟩
      have HB1 := Lib.hid hb1
      have HA1 := Lib.hid (at_below H.out hb1)
      clear hb1
      go_wp2_with fail
      refine (theirs_any A c L _ HA1.out HL3.out).mono ?_
      rintro r w2 ⟨B2, d2, rfl, hn1, hn2, hat2, hb2⟩
      have HB2 := Lib.hid (HB1.out.trans (hb2.mono HB1.out.size))
      have HA2 := Lib.hid hat2
      have HD2 := Lib.hid (show k + 1 ≤ d2 ∧ d2 ≤ maxLen from ⟨by have := HK.out; omega, hn2⟩)
      clear hat2 hb2 hn1 hn2
      go_wp2_with fail
      refine (graph_any B2 d2 L _ HA2.out HOK.out HL.out).mono ?_
      rintro r w3 ⟨m, rfl, his, hb3⟩
      have HB3 := Lib.hid (HB2.out.trans (hb3.mono HB2.out.size))
      have HA3 := Lib.hid (at_below HA2.out hb3)
      have HIS := Lib.hid his
      clear his hb3
      have HX := Lib.hid (mat_box w3 m)
      have hdk : (L.length : Int) - 1 ≤ (d2 : Int) := by have := HD2.out; have := HK.out; omega
      have hge : (0 : Int) ≤ (L.length : Int) - 1 := by have := HK.out; omega
      have hto : ((L.length : Int) - 1).toNat = k := by have := HK.out; omega
      have hwr : IntKind.i64.wrap ((L.length : Int) - 1) = (L.length : Int) - 1 := by rw [IntKind.wrap_i64]; omega
      go_wp2_with (refine wpList_store_row rfl 50 (.tmp 4) (.tmp 24) rfl w3.heap.size (matA m) rfl rfl 50 _ (heap_alloc_new _ _) (matInfo m) (by rw [matA_size]; rfl) (matA_one _) ?_)
      generalize (w3.alloc (.cells #[Value.int .u64 0, Value.int .u64 0, Value.int .u64 0, Value.int .u64 0, Value.int .u64 0, Value.int .u64 0, Value.int .u64 0, Value.int .u64 0, Value.int .u64 0, Value.int .u64 0, Value.int .u64 0, Value.int .u64 0, Value.int .u64 0, Value.int .u64 0, Value.int .u64 0, Value.int .u64 0, Value.int .u64 0, Value.int .u64 0, Value.int .u64 0, Value.int .u64 0, Value.int .u64 0, Value.int .u64 0, Value.int .u64 0, Value.int .u64 0, Value.int .u64 0, Value.int .u64 0, Value.int .u64 0, Value.int .u64 0, Value.int .u64 0, Value.int .u64 0, Value.int .u64 0, Value.int .u64 0] 50)).setRow w3.heap.size (matA m) = w4 at HX ⊢
      have HA4 := Lib.hid (at_below HA3.out HX.out.bel)
      have HB4 := Lib.hid (HB3.out.trans (HX.out.bel.mono HB3.out.size))
      have HM4 := Lib.hid HX.out.bx
      clear HX hdk hge hto hwr hd1 hd2
      generalize w3.heap.size = q at HM4 ⊢
      have hG := graph_any B2 d2 (L.take k) _ (HA4.out.take k) (fun e he => HOK.out e (List.mem_of_mem_take he)) (by have := HTK.out; have := HL.out; have := HK.out; omega)
      rw [HTK.out] at hG
      refine hG.mono ?_
      clear hG
      rintro r w5 ⟨m2, rfl, his2, hb5⟩
      have HB5 := Lib.hid (HB4.out.trans (hb5.mono HB4.out.size))
      have HM5 := Lib.hid (HM4.out.below hb5)
      have HI2 := Lib.hid his2
      clear his2 hb5
      have HX := Lib.hid (mat_box w5 m2)
      cases hs : (crs L).isSome with
      | false =>
        have heq := fun W => eq_mat m zeroM true (is_none (by have := HIS.out; rwa [crL_nil hs] at this)) W
        simp only [matA_zeroL] at heq
        have HEQ := Lib.hid heq
        have HM6 := Lib.hid (show MatAt ((w5.alloc (.cells #[Value.int .u64 0, Value.int .u64 0, Value.int .u64 0, Value.int .u64 0, Value.int .u64 0, Value.int .u64 0, Value.int .u64 0, Value.int .u64 0, Value.int .u64 0, Value.int .u64 0, Value.int .u64 0, Value.int .u64 0, Value.int .u64 0, Value.int .u64 0, Value.int .u64 0, Value.int .u64 0, Value.int .u64 0, Value.int .u64 0, Value.int .u64 0, Value.int .u64 0, Value.int .u64 0, Value.int .u64 0, Value.int .u64 0, Value.int .u64 0, Value.int .u64 0, Value.int .u64 0, Value.int .u64 0, Value.int .u64 0, Value.int .u64 0, Value.int .u64 0, Value.int .u64 0, Value.int .u64 0] 50)).setRow w5.heap.size (matA m2)) q m 50 from HM5.out.below HX.out.bel)
        clear hs heq
        go_wp2_with (first
          | (refine wpList_store_row rfl 50 (.tmp 6) (.tmp 33) rfl w5.heap.size (matA m2) rfl rfl 50 _ (heap_alloc_new _ _) (matInfo m2) (by rw [matA_size]; rfl) (matA_one _) ?_)
          | (refine wpList_load_row rfl 50 (.tmp 4) rfl q rfl 50 (matA m) (0, 0) _ HM6.out Try.underlying50 rfl (matInfo m) ?_; have heq := HEQ.out))
        go_ret
        exact ⟨rfl, HB5.out.trans (HX.out.bel.mono HB5.out.size)⟩
      | true =>
        obtain ⟨l', l, h1, _, _, _⟩ := crs_pre (k := k) HL.out hs
        rw [show (crs (L.take k)).isSome = true from by rw [h1]; rfl]
        have HSUB := Lib.hid (show ∀ i, i < 32 → bits .andNot .u64 ((m2 i : Nat) : Int) ((m i : Nat) : Int) = 0 from fun i hi =>
          none_over (is_lt32 HI2.out (crL_ok (by have := HTK.out; have := HL.out; have := HK.out; omega)).2 hi) (is_lt32 HIS.out (crL_ok HL.out).2 hi) fun j hj => (HIS.out.is i j hi).2 (ge_pre HL.out hs ((HI2.out.is i j hi).1 hj)))
        clear hs h1
        go_wp2_with (refine wpList_store_row rfl 50 (.tmp 6) (.tmp 33) rfl w5.heap.size (matA m2) rfl rfl 50 _ (heap_alloc_new _ _) (matInfo m2) (by rw [matA_size]; rfl) (matA_one _) ?_)
        generalize (w5.alloc (.cells #[Value.int .u64 0, Value.int .u64 0, Value.int .u64 0, Value.int .u64 0, Value.int .u64 0, Value.int .u64 0, Value.int .u64 0, Value.int .u64 0, Value.int .u64 0, Value.int .u64 0, Value.int .u64 0, Value.int .u64 0, Value.int .u64 0, Value.int .u64 0, Value.int .u64 0, Value.int .u64 0, Value.int .u64 0, Value.int .u64 0, Value.int .u64 0, Value.int .u64 0, Value.int .u64 0, Value.int .u64 0, Value.int .u64 0, Value.int .u64 0, Value.int .u64 0, Value.int .u64 0, Value.int .u64 0, Value.int .u64 0, Value.int .u64 0, Value.int .u64 0, Value.int .u64 0, Value.int .u64 0] 50)).setRow w5.heap.size (matA m2) = w6 at HX ⊢
        have HG6 := Lib.hid (show GW w q m w5.heap.size m2 w6 from ⟨HM5.out.below HX.out.bel, HX.out.bx, HB5.out.trans (HX.out.bel.mono HB5.out.size)⟩)
        clear HX
        generalize w5.heap.size = q2 at HG6 ⊢
        go_loopw [40] (GWrel w q m q2 m2) (fun i _ => 32 - (intOf i).toNat)
        case atStart => exact ⟨0, Nat.zero_le _, rfl, HG6.out⟩
        case round =>
          obtain ⟨i, hi, rfl, hg⟩ := hrel
          have HG := Lib.hid hg
          clear hg
          by_cases hlt : i < 32
          · have hlt' : (i : Int) < 32 := by omega
            have HI := Lib.hid hlt
            have HIN := Lib.hid hlt'
            have HZ := Lib.hid (HSUB.out i hlt)
            go_wp2
            refine wp_region_noPanic ?_
            refine region_z 8 (fun W => GW w q m q2 m2 W) 8 1000 rfl (by kernel_rfl) (by exact HG.out.drew) (fun hHeld => ?_)
            refine take_d [1, 2, 6, 7] 0 43 (.int .i64 (i : Nat)) rfl rfl (by kernel_rfl) (by kernel_rfl) (by kernel_rfl) (by kernel_rfl) (fun _ _ _ h => h) (Or.inl ⟨by rfl, by intro W hW; clear hW; go_simp⟩) hHeld ?_
            simp only [put_laws]
            refine take_d [2, 6, 7] 1 44 (.pointer (some ⟨q2, i, none⟩)) rfl rfl (by kernel_rfl) (by kernel_rfl) (by kernel_rfl) (by kernel_rfl) (fun _ _ _ h => h) (Or.inl ⟨by rfl, by intro W hW; have h1 := HIN.out; have h2 := HIN.out; clear hW; go_simp⟩) hHeld ?_
            simp only [put_laws]
            refine take_d [6, 7] 2 45 (.int .u64 (m2 i : Nat)) rfl rfl (by kernel_rfl) (by kernel_rfl) (by kernel_rfl) (by kernel_rfl) (fun _ _ _ h => h) (Or.inl ⟨by rfl, by intro W hW; have hh := hW.b.cell i HI.out; clear hW; go_simp⟩) hHeld ?_
            simp only [put_laws]
            refine take_d [4, 5, 6, 7] 3 46 (.int .i64 (i : Nat)) rfl rfl (by kernel_rfl) (by kernel_rfl) (by kernel_rfl) (by kernel_rfl) (fun _ _ _ h => h) (Or.inl ⟨by rfl, by intro W hW; clear hW; go_simp⟩) hHeld ?_
            simp only [put_laws]
            refine take_d [5, 6, 7] 4 47 (.pointer (some ⟨q, i, none⟩)) rfl rfl (by kernel_rfl) (by kernel_rfl) (by kernel_rfl) (by kernel_rfl) (fun _ _ _ h => h) (Or.inl ⟨by rfl, by intro W hW; have h1 := HIN.out; have h2 := HIN.out; clear hW; go_simp⟩) hHeld ?_
            simp only [put_laws]
            refine take_d [6, 7] 5 48 (.int .u64 (m i : Nat)) rfl rfl (by kernel_rfl) (by kernel_rfl) (by kernel_rfl) (by kernel_rfl) (fun _ _ _ h => h) (Or.inl ⟨by rfl, by intro W hW; have hh := hW.a.cell i HI.out; clear hW; go_simp⟩) hHeld ?_
            simp only [put_laws]
            refine take_d [7] 6 49 (.int .u64 0) rfl rfl (by kernel_rfl) (by kernel_rfl) (by kernel_rfl) (by kernel_rfl) (fun _ _ _ h => h) (Or.inl ⟨by rfl, by intro W hW; have hh := HZ.out; clear hW; go_simp⟩) hHeld ?_
            simp only [put_laws]
            refine take_d [] 7 50 (.bool false) rfl rfl (by kernel_rfl) (by kernel_rfl) (by kernel_rfl) (by kernel_rfl) (fun _ _ _ h => h) (Or.inl ⟨by rfl, by intro W hW; clear hW; go_simp⟩) hHeld ?_
            simp only [put_laws]
            refine anyZ_done (by kernel_rfl) ?_ _
            refine NoPanic.normal ?_
            have HH := Lib.hid hHeld
            clear hHeld
            go_wp2
            go_roundw
            case rel => exact ⟨i + 1, by have := HI.out; omega, by go_num, HH.out⟩
            case measure => simp [intOf]; have := HI.out; omega
          · have hlt' : ¬ (i : Int) < 32 := by omega
            go_wp2
            go_ret
            exact ⟨rfl, HG.out.bel⟩
  · have hl' : (L.length : Int) > 120 := by omega
    go_enter Try.func8, Try.ntmps8
    go_wp2_with fail
    refine (alive_any _).mono ?_
    rintro r w1 ⟨rfl, hb1⟩
    have HB1 := Lib.hid hb1
    clear hb1
    go_wp2
    go_ret
    exact ⟨rfl, HB1.out⟩
end Go.Proofs.Ytcfdndppkpjleaa.Hi
