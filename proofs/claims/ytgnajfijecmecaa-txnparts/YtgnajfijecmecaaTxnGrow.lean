/-
  Contracts of the library's Grow and Concat, of add, Read and Write.
-/
import Derived.Test.YtgnajfijecmecaaTxnRows
import Derived.Lib.AppendZerosOnto
import Derived.Lib.SliceRun
namespace Go.Proofs.Ytgnajfijecmecaa.Tx
open Go.RowKit
theorem new_cell {W : World} {g : Nat} (hg : W.heap.size = g) (cs : Array Value) (t : TypeId) (i : Nat) : (W.alloc (.cells cs t)).cell? ⟨g, i, none⟩ = cs[i]? := by
  subst hg; exact cell_of_row _ _ i _ _ (0, 0) (heap_alloc_new _ _)
theorem below_drew (w : World) : Below w.heap.size w w.drew := ⟨rfl, rfl, rfl, Nat.le_refl _, fun _ _ => rfl⟩
set_option maxHeartbeats 1000000 in
theorem grow_any (n : Nat) (w : World) (h0 : 0 < n) (hn : n ≤ 400) :
    Calls Try.prog 26 #[.slice none 0 0, .int .i64 (n : Nat)] w fun e w' => ∃ g c, e = .returned (.slice (some ⟨g, 0, none⟩) 0 c) ∧ OwnVars w' w.heap.size 39 (.slice (some ⟨g, 0, none⟩) 0 c) [] ∧ Below w.heap.size w w' ∧ w.heap.size < w'.heap.size := by
  obtain ⟨i0, hi, hz0, hz1, hz2⟩ := info_parts step_info
  have hr := fun ty => Lib.run_append_grow_zeros (P := Try.prog) w 29 3 ty 39 i0 _ .i64 .i64 Try.underlying29 Try.underlying3 hi hz0 none 0 0 [] (run_firstCells_none w.drew i0.size 0 0 0) n h0 (by omega) (by omega) (by omega) (by rw [hz2]; omega) (by rw [hz2]; exact growslice_fits (by omega) (by omega))
  have hG := grownCap_le_maxLen w (0 + n) 0 39 (by unfold maxLen; omega)
  have hG2 := grownCap_ge w (0 + n) 0 39
  obtain ⟨G, e⟩ : ∃ G, G = grownCap w (0 + n) 0 39 := ⟨_, rfl⟩
  rw [← e] at hG hG2
  simp only [← e] at hr
  obtain ⟨o, ho⟩ : ∃ o, o = Obj.cells (#[] ++ Builtin.zeroCells (Value.cells (.agg #[.int .i64 0, .int .i64 0, .int .i64 0, .bool false])) n ++ Builtin.zeroCells (Value.cells (.agg #[.int .i64 0, .int .i64 0, .int .i64 0, .bool false])) (G - (0 + n))) 39 := ⟨_, rfl⟩
  rw [show ([] : List Value).toArray = #[] from rfl] at hr
  simp only [← ho] at hr
  have HO := Lib.hid (show OwnVars (w.drew.alloc o) w.heap.size 39 (.slice (some ⟨w.heap.size, 0, none⟩) 0 G) [] from
    ⟨⟨rfl, .inr ⟨w.heap.size, G, _, rfl, Nat.le_refl _, (heap_alloc_new w.drew _).trans (by rw [ho]), Nat.zero_le _, hG, by simp [size_zeroCells, Value.cells]; omega, rfl⟩⟩, by simp⟩)
  have HB := Lib.hid ((below_drew w).trans (below_new w.drew o))
  have HS := Lib.hid (show w.heap.size < (w.drew.alloc o).heap.size by rw [size_new]; exact Nat.lt_succ_self _)
  unfold maxLen at hG
  have hG3 : (G : Int) ≤ 9223372036854775807 := by omega
  clear hi hz0 hz1 hz2 ho e
  have hn0 : ¬ (n : Int) < 0 := by omega
  have hn1 : (n : Int) > 0 := by omega
  go_enter Try.func26, Try.ntmps26
  go_wp2_with (at_builtin; refine Lib.wpList_append_run _ rfl _ _ _ _ rfl _ _ rfl rfl _ _ (hr _) ?_)
  go_ret
  exact ⟨_, _, rfl, HO.out, HB.out, HS.out⟩
/-- what has come of two rows. -/
def part (L M : List Sp) : Nat → List Sp
  | 0 => []
  | 1 => L
  | _ => L ++ M
theorem part_len (L M : List Sp) (k : Nat) : (part L M k).length ≤ L.length + M.length := by
  unfold part
  split <;> simp
def SumRel (L M : List Sp) (w : World) (s i : Value) (wr : World) : Prop := ∃ k : Nat, k ≤ 2 ∧ i = .int .i64 k ∧ s = .int .i64 ((part L M k).length : Nat) ∧ w = wr
def CatRel (L M : List Sp) (w : World) (v i : Value) (wr : World) : Prop := ∃ k : Nat, k ≤ 2 ∧ i = .int .i64 k ∧ OwnVars wr w.heap.size 39 v (part L M k) ∧ Below w.heap.size w wr
set_option maxHeartbeats 2000000 in
theorem concat_any (g : Nat) (A B : Option Addr) (c d : Nat) (L M : List Sp) (w : World) (h0 : w.cell? ⟨g, 0, none⟩ = some (.slice A L.length c)) (h1 : w.cell? ⟨g, 1, none⟩ = some (.slice B M.length d)) (hA : VarsAt w A L) (hB : VarsAt w B M) (hp : 0 < L.length + M.length) (hl : L.length + M.length ≤ 400) :
    Calls Try.prog 24 #[.slice (some ⟨g, 0, none⟩) 2 2] w (RowPost (L ++ M) 39 w) := by
  have HA := Lib.hid hA
  have HB := Lib.hid hB
  clear hA hB
  have H0 := Lib.hid h0
  have H1 := Lib.hid h1
  have HP := Lib.hid hp
  have HL := Lib.hid hl
  clear h0 h1 hp hl
  go_enter Try.func24, Try.ntmps24
  go_wp2
  go_loopw [3, 11] (SumRel L M w) (fun _ i _ => 2 - (intOf i).toNat)
  case atStart => exact ⟨0, Nat.zero_le _, rfl, rfl, rfl⟩
  case round =>
    obtain ⟨k, hk, rfl, rfl, rfl⟩ := hrel
    obtain rfl | rfl | rfl : k = 0 ∨ k = 1 ∨ k = 2 := by omega
    · have c0 := H0.out
      have hlen : (L.length : Int) ≤ 400 := by have := HL.out; omega
      have hs : wrap64 ((0 : Int) + (L.length : Int)) = (L.length : Int) := by unfold wrap64; omega
      simp only [part, List.length_nil]
      go_wp2
      go_round
      case rel => exact ⟨1, by omega, by go_num, by go_num, rfl⟩
      case measure => simp [intOf]
    · have c1 := H1.out
      have hlen : (L.length : Int) + (M.length : Int) ≤ 400 := by have := HL.out; omega
      have hs : wrap64 ((L.length : Int) + (M.length : Int)) = (L.length : Int) + (M.length : Int) := by unfold wrap64; omega
      simp only [part]
      go_wp2
      go_round
      case rel => exact ⟨2, by omega, by go_num, by simp [part], rfl⟩
      case measure => simp [intOf]
    · go_wp2_with fail
      refine (grow_any (part L M 2).length _ (by have := HP.out; simp [part]; omega) (by have := HL.out; simp [part]; omega)).mono ?_
      rintro e w1 ⟨g1, c1, rfl, ho, hb, hs⟩
      have HO := Lib.hid ho
      have HBl := Lib.hid hb
      clear ho hb
      go_wp2
      go_loopw [6, 27] (CatRel L M w) (fun _ i _ => 2 - (intOf i).toNat)
      case atStart => exact ⟨0, Nat.zero_le _, rfl, HO.out, HBl.out⟩
      case round =>
        obtain ⟨k, hk, rfl, ho, hb⟩ := hrel
        have HO := Lib.hid ho
        have HBl := Lib.hid hb
        clear ho hb
        obtain rfl | rfl | rfl : k = 0 ∨ k = 1 ∨ k = 2 := by omega
        · have c0 := (HBl.out.cell (cell_lt H0.out)).trans H0.out
          go_wp2_with (at_builtin; refine append_vars vt rfl _ _ rfl rfl HO.out _ _ L rfl rfl (HA.out.below HBl.out (Nat.le_refl _)) ?c1 ?c2 ?_)
          case c1 => have := HL.out; simp [part]; omega
          case c2 => exact HBl.out.size
          intro v' w2 ho2 hb2 hs2
          have HO2 := Lib.hid ho2
          have HB2 := Lib.hid (HBl.out.trans hb2)
          clear ho2 hb2
          go_wp2
          go_round
          case rel => exact ⟨1, by omega, by go_num, HO2.out, HB2.out⟩
          case measure => simp [intOf]
        · have c1 := (HBl.out.cell (cell_lt H1.out)).trans H1.out
          go_wp2_with (at_builtin; refine append_vars vt rfl _ _ rfl rfl HO.out _ _ M rfl rfl (HB.out.below HBl.out (Nat.le_refl _)) ?c1 ?c2 ?_)
          case c1 => have := HL.out; simp [part]; omega
          case c2 => exact HBl.out.size
          intro v' w2 ho2 hb2 hs2
          have HO2 := Lib.hid ho2
          have HB2 := Lib.hid (HBl.out.trans hb2)
          clear ho2 hb2
          go_wp2
          go_round
          case rel => exact ⟨2, by omega, by go_num, HO2.out, HB2.out⟩
          case measure => simp [intOf]
        · go_wp2
          go_ret
          exact ⟨_, rfl, HO.out, HBl.out⟩
theorem concat_slice (g : Nat) (A B : Option Addr) (c d : Nat) (L M : List Sp) (w : World) (h0 : w.cell? ⟨g, 0, none⟩ = some (.slice A L.length c)) (h1 : w.cell? ⟨g, 1, none⟩ = some (.slice B M.length d)) (hA : VarsAt w A L) (hB : VarsAt w B M) (hp : 0 < L.length + M.length) (hl : L.length + M.length ≤ 400) :
    Calls Try.prog 24 #[.slice (some ⟨g, 0, none⟩) 2 2] w fun e w' => ∃ T d, e = .returned (.slice T (L ++ M).length d) ∧ SlAt w' T d (L ++ M) ∧ Below w.heap.size w w' := by
  refine (concat_any g A B c d L M w h0 h1 hA hB hp hl).mono ?_
  rintro e w' ⟨v, rfl, ho, hb⟩
  obtain ⟨T, d, rfl, hv⟩ := ho.sl
  exact ⟨T, d, rfl, hv, hb⟩
theorem clone_slice (A : Option Addr) (c : Nat) (L : List Sp) (w : World) (h : VarsAt w A L) (hl : L.length ≤ 300) :
    Calls Try.prog 20 #[.slice A L.length c] w fun e w' => ∃ T d, e = .returned (.slice T L.length d) ∧ SlAt w' T d L ∧ Below w.heap.size w w' := by
  refine (clone_any A c L w h hl).mono ?_
  rintro e w' ⟨v, rfl, ho, hb⟩
  obtain ⟨T, d, rfl, hv⟩ := ho.sl
  exact ⟨T, d, rfl, hv, hb⟩
/-- a row and an error. -/
def AddPost (L : List Sp) (n : Int) (w : World) (e : Ending) (w' : World) : Prop := ∃ T c, e = .returned (.tuple #[.slice T L.length c, .int .i64 n]) ∧ SlAt w' T c L ∧ Below w.heap.size w w'
theorem addE_arg {L : List Sp} {s : Sp} (h : ¬ (0 ≤ s.x ∧ s.x < 64 ∧ right s.k s.n = true)) : addE L s = 2 ∧ addL L s = L := by
  have : addE L s = 2 := by unfold addE; rw [if_neg h]
  exact ⟨this, by unfold addL; rw [this, if_neg (by decide)]⟩
theorem addE_full {L : List Sp} {s : Sp} (h : 0 ≤ s.x ∧ s.x < 64 ∧ right s.k s.n = true) (hl : 200 ≤ L.length) : addE L s = 4 ∧ addL L s = L := by
  have : addE L s = 4 := by unfold addE; rw [if_pos h, if_pos hl]
  exact ⟨this, by unfold addL; rw [this, if_neg (by decide)]⟩
theorem addE_ok {L : List Sp} {s : Sp} (h : 0 ≤ s.x ∧ s.x < 64 ∧ right s.k s.n = true) (hl : ¬ 200 ≤ L.length) : addE L s = 0 ∧ addL L s = L ++ [s] := by
  have : addE L s = 0 := by unfold addE; rw [if_pos h, if_neg hl]
  exact ⟨this, by unfold addL; rw [this, if_pos rfl]⟩
set_option maxHeartbeats 2000000 in
set_option maxRecDepth 100000 in
theorem add_any (A : Option Addr) (c : Nat) (L : List Sp) (s : Sp) (w : World) (h : VarsAt w A L) (hl : L.length ≤ 300) (hs : s.ok) :
    Calls Try.prog 19 #[.slice A L.length c, .agg (stepA s)] w (AddPost (addL L s) (addE L s) w) := by
  have H := Lib.hid h
  have HS := Lib.hid hs
  have HL := Lib.hid hl
  clear h hs hl
  have HX := Lib.hid (stepAt_new w s 39)
  have HB0 := Lib.hid (below_new w (.cells (stepA s) 39))
  have c0 := HX.out.c0
  have c1 := HX.out.c1
  have c2 := HX.out.c2
  have c3 := HX.out.c3
  unfold stepA at *
  by_cases hx : 0 ≤ s.x
  · have hx0 : ¬ s.x < 0 := by omega
    by_cases hx1 : s.x < 64
    · have hx2 : ¬ (s.x ≥ 64) := by omega
      have HX2 := Lib.hid hx1
      have HX0 := Lib.hid hx
      cases hr : right s.k s.n with
      | false =>
        obtain ⟨e1, e2⟩ := addE_arg (L := L) (s := s) (fun h => by have := h.2.2; rw [hr] at this; cases this)
        rw [e1, e2]
        have HR := Lib.hid hr
        clear e1 e2 hr
        go_enter Try.func19, Try.ntmps19
        go_wp2_with fail
        refine (right_val _ _ _ _ HR.out).mono ?_
        rintro e w0 ⟨rfl, hb0⟩
        have HB1 := Lib.hid (HB0.out.trans (hb0.mono HB0.out.size))
        clear hb0
        go_wp2_with fail
        refine (clone_slice _ _ _ _ (H.out.below HB1.out (Nat.le_refl _)) HL.out).mono ?_
        rintro e w1 ⟨T, d, rfl, hv, hb⟩
        have HV := Lib.hid hv
        have HB := Lib.hid (HB1.out.trans (hb.mono HB1.out.size))
        clear hv hb
        go_wp2
        go_ret2
        exact ⟨_, _, rfl, HV.out, HB.out⟩
      | true =>
        have HR := Lib.hid hr
        clear hr
        by_cases hf : 200 ≤ L.length
        · obtain ⟨e1, e2⟩ := addE_full (L := L) (s := s) ⟨hx, hx1, HR.out⟩ hf
          rw [e1, e2]
          clear e1 e2
          have hf' : (L.length : Int) ≥ 200 := by omega
          go_enter Try.func19, Try.ntmps19
          go_wp2_with fail
          refine (right_val _ _ _ _ HR.out).mono ?_
          rintro e w0 ⟨rfl, hb0⟩
          have HB1 := Lib.hid (HB0.out.trans (hb0.mono HB0.out.size))
          clear hb0
          go_wp2_with fail
          refine (clone_slice _ _ _ _ (H.out.below HB1.out (Nat.le_refl _)) HL.out).mono ?_
          rintro e w1 ⟨T, d, rfl, hv, hb⟩
          have HV := Lib.hid hv
          have HB := Lib.hid (HB1.out.trans (hb.mono HB1.out.size))
          clear hv hb
          go_wp2
          go_ret2
          exact ⟨_, _, rfl, HV.out, HB.out⟩
        · obtain ⟨e1, e2⟩ := addE_ok (L := L) (s := s) ⟨hx, hx1, HR.out⟩ hf
          rw [e1, e2]
          clear e1 e2
          have hf' : ¬ (L.length : Int) ≥ 200 := by omega
          go_enter Try.func19, Try.ntmps19
          go_wp2_with fail
          refine (right_val _ _ _ _ HR.out).mono ?_
          rintro e w0 ⟨rfl, hb0⟩
          have HB1 := Lib.hid (HB0.out.trans (hb0.mono HB0.out.size))
          have HX1 := HX.out.below hb0 HX.out.lt
          have d0 := HX1.c0
          have d1 := HX1.c1
          have d2 := HX1.c2
          have d3 := HX1.c3
          clear hb0 HX1
          have HN := Lib.hid (new_vars w0 s 39 HS.out)
          unfold stepA at HN
          go_wp2_with fail
          refine (concat_slice _ A (some ⟨w0.heap.size, 0, none⟩) c 1 L [s] _ ?g0 ?g1 ?gA ?gB (by simp) (by simp; omega)).mono ?_
          case g0 => exact new_cell (size_new _ _) _ _ 0
          case g1 => exact new_cell (size_new _ _) _ _ 1
          case gA => exact ((H.out.below HB1.out (Nat.le_refl _)).alloc _).alloc _
          case gB => exact HN.out.alloc _
          rintro e w1 ⟨T, d, rfl, hv, hb⟩
          have HV := Lib.hid hv
          have HB := Lib.hid (((HB1.out.alloc HB1.out.size _).alloc (by have := HB1.out.size; simp; omega) _).trans (hb.mono (by have := HB1.out.size; simp; omega)))
          clear hv hb
          go_wp2
          go_ret2
          exact ⟨_, _, by rw [List.length_append]; rfl, HV.out, HB.out⟩
    · have hx2 : s.x ≥ 64 := by omega
      obtain ⟨e1, e2⟩ := addE_arg (L := L) (s := s) (fun h => hx1 h.2.1)
      rw [e1, e2]
      clear e1 e2
      go_enter Try.func19, Try.ntmps19
      go_wp2_with fail
      refine (clone_slice _ _ _ _ (H.out.below HB0.out (Nat.le_refl _)) HL.out).mono ?_
      rintro e w1 ⟨T, d, rfl, hv, hb⟩
      have HV := Lib.hid hv
      have HB := Lib.hid (HB0.out.trans (hb.mono HB0.out.size))
      clear hv hb
      go_wp2
      go_ret2
      exact ⟨_, _, rfl, HV.out, HB.out⟩
  · have hxn : s.x < 0 := by omega
    obtain ⟨e1, e2⟩ := addE_arg (L := L) (s := s) (fun h => hx h.1)
    rw [e1, e2]
    clear e1 e2
    go_enter Try.func19, Try.ntmps19
    go_wp2_with fail
    refine (clone_slice _ _ _ _ (H.out.below HB0.out (Nat.le_refl _)) HL.out).mono ?_
    rintro e w1 ⟨T, d, rfl, hv, hb⟩
    have HV := Lib.hid hv
    have HB := Lib.hid (HB0.out.trans (hb.mono HB0.out.size))
    clear hv hb
    go_wp2
    go_ret2
    exact ⟨_, _, rfl, HV.out, HB.out⟩
set_option maxHeartbeats 1000000 in
theorem write_any (A : Option Addr) (c : Nat) (L : List Sp) (x k n : Int) (w : World) (h : VarsAt w A L) (hl : L.length ≤ 300) (hx : i64p x) (hk : i64p k) (hn : i64p n) :
    Calls Try.prog 10 #[.slice A L.length c, .int .i64 x, .agg #[.int .i64 k, .int .i64 n]] w (AddPost (addL L ⟨x, k, n, true⟩) (addE L ⟨x, k, n, true⟩) w) := by
  have HB0 := Lib.hid (below_new w (.cells #[.int .i64 k, .int .i64 n] 34))
  have H := Lib.hid (add_any A c L ⟨x, k, n, true⟩ _ (h.below HB0.out (Nat.le_refl _)) hl ⟨hx, hk, hn⟩)
  clear h hx hk hn hl
  go_enter Try.func10, Try.ntmps10
  go_wp2_with fail
  refine H.out.mono ?_
  rintro e w1 ⟨T, d, rfl, hv, hb⟩
  have HV := Lib.hid hv
  have HB := Lib.hid (HB0.out.trans (hb.mono HB0.out.size))
  clear hv hb
  go_wp2
  go_ret2
  exact ⟨_, _, rfl, HV.out, HB.out⟩
set_option maxHeartbeats 1000000 in
theorem read_any (A : Option Addr) (c : Nat) (L : List Sp) (x k n : Int) (w : World) (h : VarsAt w A L) (hl : L.length ≤ 300) (hx : i64p x) (hk : i64p k) (hn : i64p n) :
    Calls Try.prog 15 #[.slice A L.length c, .int .i64 x, .agg #[.int .i64 k, .int .i64 n]] w (AddPost (addL L ⟨x, k, n, false⟩) (addE L ⟨x, k, n, false⟩) w) := by
  have HB0 := Lib.hid (below_new w (.cells #[.int .i64 k, .int .i64 n] 34))
  have H := Lib.hid (add_any A c L ⟨x, k, n, false⟩ _ (h.below HB0.out (Nat.le_refl _)) hl ⟨hx, hk, hn⟩)
  clear h hx hk hn hl
  go_enter Try.func15, Try.ntmps15
  go_wp2_with fail
  refine H.out.mono ?_
  rintro e w1 ⟨T, d, rfl, hv, hb⟩
  have HV := Lib.hid hv
  have HB := Lib.hid (HB0.out.trans (hb.mono HB0.out.size))
  clear hv hb
  go_wp2
  go_ret2
  exact ⟨_, _, rfl, HV.out, HB.out⟩
end Go.Proofs.Ytgnajfijecmecaa.Tx
