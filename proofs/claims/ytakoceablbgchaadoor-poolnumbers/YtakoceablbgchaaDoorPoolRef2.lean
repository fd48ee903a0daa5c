/-
  The contract of the document's own Begin of pools.
-/
import Derived.Test.YtakoceablbgchaaDoorPoolRef1
namespace Go.Proofs.YtakoceablbgchaaDoor
open Go.RowKit
attribute [local go_sem ↓] Go.wp_at_zero Go.wp_at_succ
def doneTo (x k : Nat) : List Nat := (List.range k).filter fun i => x.testBit i
theorem doneTo_no {x k : Nat} (h : x.testBit k = false) : doneTo x (k + 1) = doneTo x k := by unfold doneTo; rw [List.range_succ, List.filter_append]; simp [h]
theorem doneTo_yes {x k : Nat} (h : x.testBit k = true) : doneTo x (k + 1) = doneTo x k ++ [k] := by unfold doneTo; rw [List.range_succ, List.filter_append]; simp [h]
theorem doneTo_all {x : Nat} (h : x < 4294967296) : doneTo x 32 = Sm.items x := by
  have key : ∀ k, 32 ≤ k → doneTo x k = doneTo x 32 := by
    intro k hk
    induction k with
    | zero => omega
    | succ k ih =>
      rcases Nat.lt_or_ge k 32 with h1 | h1
      · obtain rfl : k = 31 := by omega
        rfl
      · rw [doneTo_no, ih h1]
        cases hb : x.testBit k
        · rfl
        · exact absurd (Mm.test32 h hb) (by omega)
  exact (key 64 (by decide)).symm
noncomputable def begR (p : Pl) (s k : Nat) : Pl := Po.over (Po.opened p s) (Po.insAll s (doneTo p.done k) (p.m, p.o))
theorem begR_ok {p : Pl} (hp : p.Ok) (s k : Nat) : Mm.Ok (begR p s k).m := by
  have key : ∀ (l : List Nat) (x : Mm.Gr × Od.O), Mm.Ok x.1 → Mm.Ok (Po.insAll s l x).1 := by
    intro l
    induction l with
    | nil => intro x h1; exact h1
    | cons c r ih => intro x h1; exact ih _ (Od.insert_ok _ _ h1)
  exact key _ _ hp.m
theorem begR_no {p : Pl} {s k : Nat} (h : p.done.testBit k = false) : begR p s (k + 1) = begR p s k := by unfold begR; rw [doneTo_no h]
theorem begR_yes {p : Pl} {s k : Nat} (h : p.done.testBit k = true) :
    begR p s (k + 1) = { begR p s k with m := (Od.insert (begR p s k).m (begR p s k).o (k : Nat) (s : Nat)).1, o := (Od.insert (begR p s k).m (begR p s k).o (k : Nat) (s : Nat)).2.1 } := by
  unfold begR
  rw [doneTo_yes h, Po.insAll_snoc]
  rfl
def RBegRel (p : Pl) (w : World) (i : Value) (wr : World) : Prop :=
  ∃ k : Nat, k ≤ 32 ∧ i = .int .i64 k ∧ (∀ j, j < k → Po.freeAt p j = false) ∧ QSt p 38 w zeroP wr
def RBegIn (p : Pl) (s : Nat) (w : World) (i : Value) (wr : World) : Prop :=
  ∃ k : Nat, k ≤ 32 ∧ i = .int .i64 k ∧ QSt (begR p s k) 38 w zeroP wr
theorem rhas_nat_val (x k : Nat) (b : Bool) (w : World) (hx : x < 18446744073709551616) (hk : k < 64) (h : x.testBit k = b) :
    Calls Tryd.prog 39 #[.int .u64 x, .int .i64 (k : Nat)] w fun e w' => e = .returned (.bool b) ∧ w = w' :=
  rhas_val x (k : Nat) b w hx (by omega) (by omega) (by rw [Sm.has_nat _ hx]; exact h)
set_option maxHeartbeats 4000000 in
set_option maxRecDepth 100000 in
theorem rbegin_any (p : Pl) (w : World) (hp : p.Ok) (hsz : p.size ≤ 32) (hd : p.done < 4294967296) (hc : p.count < 9223372036854775807) (hT : TabAt w) :
    Calls Tryd.prog 36 #[.agg (poolA p)] w fun e w' => e = .returned (.tuple #[.agg (poolA (Po.begin p).1), .int .i64 (Po.begin p).2.1, .int .i64 (Po.begin p).2.2]) ∧ Below w.heap.size w w' := by
  have hz := (zero_of_info zero_rpool_info).1
  have H0 := Lib.hid (qst_first p 38 w)
  have HP := Lib.hid hp
  have HT := Lib.hid hT
  have HD := Lib.hid hd
  have hc0 := hp.count.1
  have hs0 := hp.size.1
  clear hp hT hd
  go_enter Tryd.func36, Tryd.ntmps36
  go_wp2
  go_loopw [5] (RBegRel p w) (fun i _ => 33 - (intOf i).toNat)
  case atStart => exact ⟨0, by omega, rfl, fun j hj => by omega, H0.out⟩
  case round =>
    obtain ⟨k, hk, rfl, hfr, hst⟩ := hrel
    have HF := Lib.hid hfr
    have HS := Lib.hid hst
    have c0 := hst.po.size_
    clear hfr hst
    by_cases hlt : (k : Int) < p.size
    · have hk32 : k < 32 := by omega
      cases ht : Po.taken p (k : Nat)
      · have HF2 := Lib.hid (show Po.ff p = some k from Po.ff_some hk32 (by rw [free_has HP.out.live HP.out.done hlt]; unfold Po.taken at ht; rw [ht]; rfl) HF.out)
        have HTk := Lib.hid ht
        clear ht
        go_wp2_with (refine load_pool rfl 38 (.tmp 1) rfl w.heap.size p 38 rfl _ HS.out.po Tryd.underlying38 rfl rpool_info ?_)
        refine (rfree_pval p (k : Nat) false _ HP.out (by omega) (by omega) HTk.out).mono ?_
        rintro e w1 ⟨rfl, hb1⟩
        have H1 := Lib.hid (HS.out.below hb1)
        clear hb1 HS c0
        have c1 := H1.out.po.live_
        have f1 := H1.out.po.frozen 65
        have c1' := H1.out.po.done_
        go_wp2_with fail
        refine (rwith_any p.live (k : Nat) _ HP.out.live (by omega) (by omega)).mono ?_
        rintro e w' ⟨rfl, rfl⟩
        have H2 := Lib.hid (H1.out.put_live (Sm.add p.live (k : Nat)))
        have c2 := H2.out.po.count_
        have f2 := H2.out.po.frozen 99
        have H3 := Lib.hid (H2.out.put_count (p.count + 1))
        have c3 := H3.out.po.count_
        have f3 := H3.out.po.frozen (67 + k)
        have c3' := H3.out.po.id_ k hk32
        have H4 := Lib.hid (H3.out.put_id k hk32 (p.count + 1))
        go_wp2
        generalize ((w1.setCell ⟨w.heap.size, 65, none⟩ (.int .u64 (Sm.add p.live (k : Nat) : Nat))).setCell ⟨w.heap.size, 99, none⟩ (.int .i64 (p.count + 1))).setCell ⟨w.heap.size, 67 + k, none⟩ (.int .i64 (p.count + 1)) = w2 at *
        have H5 := Lib.hid (show QSt (begR p k 0) 38 w zeroP w2 from H4.out)
        clear c1 f1 c1' c2 f2 c3 f3 c3' H1 H2 H3 H4
        go_loopw [7] (RBegIn p k w) (fun i _ => 32 - (intOf i).toNat)
        case atStart => exact ⟨0, by omega, rfl, H5.out⟩
        case round =>
          obtain ⟨j, hj, rfl, hst⟩ := hrel
          have HS := Lib.hid hst
          clear hst
          by_cases hjl : j < 32
          · cases hdj : p.done.testBit j
            · have HE := Lib.hid (begR_no (s := k) hdj)
              have HDJ := Lib.hid hdj
              clear hdj
              go_wp2_with fail
              refine (rhas_nat_val p.done j false _ HP.out.done (by omega) HDJ.out).mono ?_
              rintro e w' ⟨rfl, rfl⟩
              go_wp2
              refine ⟨⟨j + 1, by omega, by go_num, ?_⟩, by simp [intOf]; omega⟩
              rw [HE.out]; exact HS.out
            · have HE := Lib.hid (begR_yes (s := k) hdj)
              have HDJ := Lib.hid hdj
              have HK := Lib.hid (begR_ok HP.out k j)
              clear hdj
              go_wp2_with fail
              refine (rhas_nat_val p.done j true _ HP.out.done (by omega) HDJ.out).mono ?_
              rintro e w' ⟨rfl, rfl⟩
              go_wp2_with (first
                | (refine load_m rfl 35 (.tmp 45) rfl w.heap.size _ 38 rfl _ HS.out.po Tryd.underlying35 rfl rmat_info ?_)
                | (refine load_o rfl 36 (.tmp 47) rfl w.heap.size _ 38 rfl _ HS.out.po Tryd.underlying36 rfl rord_info ?_))
              refine (rinsert_any _ _ (j : Nat) (k : Nat) _ HK.out (by omega) (by omega) (tab_keep HT.out HS.out.bel)).mono ?_
              rintro e w4 ⟨rfl, hb4⟩
              have HS4 := Lib.hid (HS.out.below hb4)
              have HW := Lib.hid (show w.heap.size + 2 ≤ w4.heap.size from HS4.out.re.lt)
              clear hb4 HS
              generalize hX : (Od.insert (begR p k j).m (begR p k j).o (j : Nat) (k : Nat)).1 = X at *
              generalize hO : (Od.insert (begR p k j).m (begR p k j).o (j : Nat) (k : Nat)).2.1 = O at *
              generalize (Od.insert (begR p k j).m (begR p k j).o (j : Nat) (k : Nat)).2.2 = b at *
              clear hX hO
              go_wp2_with (first
                | (refine wpList_let2 rfl rfl 35 36 (.tmp 8) (.tmp 52) (.tmp 9) (.tmp 53) rfl rfl rfl rfl w4 X O rfl rfl rfl rfl rfl rfl rfl rmat_info rord_info ?_; intro w5 hM hO hB; have H5' := Lib.hid (HS4.out.below hB); have HM := Lib.hid hM; have HO := Lib.hid hO; clear hM hO hB HS4)
                | (refine wpList_load_row rfl 35 (.tmp 8) rfl w4.heap.size rfl 35 (matA X) (0, 0) _ HM.out Tryd.underlying35 rfl (rmatInfo _) ?_)
                | (refine store_mQ rfl 35 (.tmp 56) (.tmp 55) rfl rfl w _ _ X 38 rfl rfl H5'.out rmat_info ?_; intro w6 h6 _ k6; have H6 := Lib.hid h6; have HO6 := Lib.hid (show OrdAt w6 (w4.heap.size + 1) O 36 from (k6 _ (by have := HW.out; omega)).trans HO.out); clear h6 k6)
                | (refine wpList_load_row rfl 36 (.tmp 9) rfl (w4.heap.size + 1) rfl 36 (ordA O) (0, 0) _ HO6.out Tryd.underlying36 rfl (rordInfo _) ?_)
                | (refine store_oQ rfl 36 (.tmp 58) (.tmp 57) rfl rfl w _ _ O 38 rfl rfl H6.out rord_info ?_; intro w7 h7 _ _; have H7 := Lib.hid h7; clear h7))
              refine ⟨⟨j + 1, by omega, by go_num, ?_⟩, by simp [intOf]; omega⟩
              rw [HE.out]; exact H7.out
          · obtain rfl : j = 32 := by omega
            have HQ := Lib.hid (show QSt (Po.begun p k) 38 w zeroP wr by
              have e : begR p k 32 = Po.begun p k := by unfold begR; rw [doneTo_all HD.out]; rfl
              rw [← e]; exact HS.out)
            have HB := Lib.hid (show Po.begin p = (Po.begun p k, (k : Int), 0) by unfold Po.begin; rw [HF2.out])
            clear HS
            go_wp2_with (first
              | (refine load_pool rfl 38 (.tmp 1) rfl w.heap.size (Po.begun p k) 38 rfl _ HQ.out.po Tryd.underlying38 rfl rpool_info ?_)
              | (refine store_pool rfl 38 (.tmp 2) (.tmp 59) rfl rfl (w.heap.size + 1) _ (Po.begun p k) 38 rfl rfl HQ.out.re rpool_info ?_))
            refine bodyPost_ret (results_pool2 rfl _ _ (w.heap.size + 1) 38 (Po.begun p k) _ (.int .i64 (k : Nat)) (.int .i64 0) rfl rfl rfl (HQ.out.tell _).re Tryd.underlying38 rfl rpool_info) rfl ⟨by rw [HB.out], (HQ.out.tell _).bel⟩
      · have HFA := Lib.hid (show Po.freeAt p k = false by rw [free_has HP.out.live HP.out.done hlt]; unfold Po.taken at ht; rw [ht]; rfl)
        have HTk := Lib.hid ht
        clear ht
        go_wp2_with (refine load_pool rfl 38 (.tmp 1) rfl w.heap.size p 38 rfl _ HS.out.po Tryd.underlying38 rfl rpool_info ?_)
        refine (rfree_pval p (k : Nat) true _ HP.out (by omega) (by omega) HTk.out).mono ?_
        rintro e w1 ⟨rfl, hb1⟩
        have H1 := Lib.hid (HS.out.below hb1)
        clear hb1 HS c0
        go_wp2
        refine ⟨⟨k + 1, by omega, by go_num, fun j hj => ?_, H1.out⟩, by simp [intOf]; omega⟩
        rcases Nat.lt_or_ge j k with h | h
        · exact HF.out j h
        · obtain rfl : j = k := by omega
          exact HFA.out
    · have HB := Lib.hid (show Po.begin p = (p, 0, 4) by
        unfold Po.begin
        rw [Po.ff_none fun j _ => ?_]
        rcases Nat.lt_or_ge j k with h | h
        · exact HF.out j h
        · exact free_big (by omega))
      go_wp2_with (first
        | (refine load_pool rfl 38 (.tmp 1) rfl w.heap.size p 38 rfl _ HS.out.po Tryd.underlying38 rfl rpool_info ?_)
        | (refine store_pool rfl 38 (.tmp 2) (.tmp 61) rfl rfl (w.heap.size + 1) _ p 38 rfl rfl HS.out.re rpool_info ?_))
      refine bodyPost_ret (results_pool2 rfl _ _ (w.heap.size + 1) 38 p _ (.int .i64 0) (.int .i64 4) rfl rfl rfl (HS.out.tell _).re Tryd.underlying38 rfl rpool_info) rfl ⟨by rw [HB.out], (HS.out.tell _).bel⟩
end Go.Proofs.YtakoceablbgchaaDoor
