/-
  The statements' first question: answers that the document fixes.
-/
import Derived.Test.YtfdfiiocccafkaaGreatDoorRepWalk2
import Derived.Test.YtfdfiiocccafkaaGreatDoorRepComm
import Derived.Test.YtfdfiiocccafkaaGreatDoorRepBegin2
namespace Go.Proofs.YtfdfiiocccafkaaGreatDoor.Rp
open Go.RowKit Tx Az
theorem at_blk {α : Type} (E : Rn.Enc α) {w : World} {b : Nat} {c : Array Value} {t : TypeId} {L : List α} (h : w.heap[b]? = some (.cells c t (0, 0))) (hc : c.toList = Rn.flat E L) : Rn.At E w (some ⟨b, 0, none⟩) L :=
  ⟨fun _ => ⟨_, rfl, fun j u hu => by
    have hadd : (⟨b, 0, none⟩ : Addr).add j = ⟨b, j, none⟩ := by unfold Addr.add; split <;> simp_all
    rw [hadd, cell_of_row _ b j c t (0, 0) h]
    rw [← hc] at hu
    simpa using hu⟩⟩
theorem vars_one {w : World} {b : Nat} {t : TypeId} {s : Sp} (h : w.heap[b]? = some (.cells (stepA s) t (0, 0))) (hs : s.ok) : VarsAt w (some ⟨b, 0, none⟩) [s] :=
  ⟨fun _ => ⟨_, rfl, fun j u hu => by
    have hadd : (⟨b, 0, none⟩ : Addr).add j = ⟨b, j, none⟩ := by unfold Addr.add; split <;> simp_all
    rw [hadd, cell_of_row _ b j _ t (0, 0) h]
    simpa [flat, cellsOf, stepA] using hu⟩, fun x hx => by simp at hx; subst hx; exact hs⟩
def rd1s : Sp := ⟨0, 1, 1, false⟩
def wr1s : Sp := ⟨0, 1, 1, true⟩
theorem rd1s_ok : rd1s.ok := by refine ⟨⟨?_, ?_⟩, ⟨?_, ?_⟩, ⟨?_, ?_⟩⟩ <;> decide
theorem wr1s_ok : wr1s.ok := by refine ⟨⟨?_, ?_⟩, ⟨?_, ?_⟩, ⟨?_, ?_⟩⟩ <;> decide
def eA : Ent := ⟨0, true, false, [], [wr1s]⟩
def eB : Ent := ⟨0, false, false, [rd1s], []⟩
def xA (b : Nat) : Xc := ⟨eA, none, 0, some ⟨b, 0, none⟩, 1⟩
def xB (b : Nat) : Xc := ⟨eB, some ⟨b, 0, none⟩, 1, none, 0⟩
theorem few_two : few [eA, eB] := fun e he => by simp at he; rcases he with rfl | rfl <;> decide
theorem sl_nil (w : World) : SlAt w none 0 [] := ⟨VarsAt.none_ _ _, Nat.le_refl _, by decide⟩
theorem xA_rd {w : World} {b : Nat} (h : VarsAt w (some ⟨b, 0, none⟩) [wr1s]) : RdX w (xA b) := ⟨sl_nil w, ⟨h, Nat.le_refl _, show (1 : Nat) ≤ maxLen by decide⟩⟩
theorem xB_rd {w : World} {b : Nat} (h : VarsAt w (some ⟨b, 0, none⟩) [rd1s]) : RdX w (xB b) := ⟨⟨h, Nat.le_refl _, show (1 : Nat) ≤ maxLen by decide⟩, sl_nil w⟩
theorem all_two : allS [(1, 0)] [eA, eB] = [(1, 1)] ∧ allN [(1, 0)] [eA, eB] = -1 := by decide
theorem fits_b : fits [(1, 0)] eB = false ∧ doS [(1, 0)] eB = [(1, 0)] := by decide
def e0 : Ent := ⟨0, false, false, [], []⟩
def e1 : Ent := ⟨0, true, false, [], []⟩
def x0 : Xc := ⟨e0, none, 0, none, 0⟩
def x1 : Xc := ⟨e1, none, 0, none, 0⟩
theorem al_ents2 (w : World) : ItAt (w.alloc (.cells #[.int .i64 0, .bool false, .bool false, .slice none 0 0, .slice none 0 0, .int .i64 0, .bool true, .bool false, .slice none 0 0, .slice none 0 0] 79)) (some ⟨w.heap.size, 0, none⟩) [x0, x1] [e0, e1] :=
  ⟨at_blk encX (heap_alloc_new w _) rfl, rfl, fun x hx => by simp at hx; rcases hx with rfl | rfl <;> exact ⟨sl_nil _, sl_nil _⟩⟩
theorem few_zero : few [e0, e1] := fun e he => by simp at he; rcases he with rfl | rfl <;> decide
theorem al_comm (A : Option Addr) (c : Nat) (w : World) (h : ItAt w A [x0, x1] [e0, e1]) : Calls Tryz.prog 15 #[.slice A 2 c] w fun e w' => ∃ B d, e = .returned (.slice B 1 d) ∧ Below w.heap.size w w' := by
  refine (committed_any A c _ [e0, e1] w h few_zero (by decide)).mono ?_
  rintro e w' ⟨v, X, rfl, ho, hb⟩
  obtain ⟨B, d, rfl, _⟩ := ho.slice
  exact ⟨B, d, rfl, hb⟩
/-- what the last question reads. -/
structure AL (w : World) (g1 g2 o1 : Nat) (W : World) : Prop where
  n0 : W.cell? ⟨g1, 0, none⟩ = some (.int .i64 1)
  a0 : W.cell? ⟨g2, 0, none⟩ = some (.int .i64 1)
  a1 : W.cell? ⟨g2, 1, none⟩ = some (.int .i64 1)
  o0 : W.cell? ⟨o1, 0, none⟩ = some (.int .i64 1)
  o1 : W.cell? ⟨o1, 1, none⟩ = some (.int .i64 1)
  bel : Below w.heap.size w W
theorem AL.below {w : World} {g1 g2 o1 : Nat} {W W' : World} (h : AL w g1 g2 o1 W) (hb : Below W.heap.size W W') : AL w g1 g2 o1 W' :=
  ⟨(hb.cell (cell_lt h.n0)).trans h.n0, (hb.cell (cell_lt h.a0)).trans h.a0, (hb.cell (cell_lt h.a1)).trans h.a1, (hb.cell (cell_lt h.o0)).trans h.o0, (hb.cell (cell_lt h.o1)).trans h.o1, h.bel.trans (hb.mono h.bel.size)⟩
theorem cl_one : cl 1 = 1 := by decide
theorem al_begin (w : World) : Calls Tryz.prog 9 #[.int .i64 1] w fun e w' => ∃ g c, e = .returned (.slice (some ⟨g, 0, none⟩) 1 c) ∧ Rn.Own encV w' w.heap.size 71 (.slice (some ⟨g, 0, none⟩) 1 c) [(1, 0)] ∧ Below w.heap.size w w' := by
  refine (begin_any 1 w).mono ?_
  rintro e w' ⟨v, rfl, ho, hb⟩
  rw [cl_one] at ho
  obtain ⟨g, c, rfl⟩ := own_open ho (by decide)
  exact ⟨g, c, rfl, ho, hb⟩
theorem own_at {w : World} {base g c n : Nat} {t : TypeId} {L : List Vp} (h : Rn.Own encV w base t (.slice (some ⟨g, 0, none⟩) n c) L) : Rn.At encV w (some ⟨g, 0, none⟩) L := by
  obtain ⟨A, d, e, _, _, h1, _⟩ := h.slice
  have := (Value.slice.inj e).1
  rw [this]; exact h1
theorem al_all (g c b : Nat) (A0 B0 : Nat) (w : World) (hA : Rn.At encV w (some ⟨g, 0, none⟩) [(1, 0)]) (hX : ItAt w (some ⟨b, 0, none⟩) [xA A0, xB B0] [eA, eB]) :
    Calls Tryz.prog 8 #[.slice (some ⟨g, 0, none⟩) 1 c, .slice (some ⟨b, 0, none⟩) 2 2] w fun e w' => ∃ g2 c2, e = .returned (.tuple #[.slice (some ⟨g2, 0, none⟩) 1 c2, .int .i64 (-1)]) ∧ Rn.Own encV w' w.heap.size 71 (.slice (some ⟨g2, 0, none⟩) 1 c2) [(1, 1)] ∧ Below w.heap.size w w' := by
  refine (all_any _ _ c 2 [(1, 0)] _ [eA, eB] w hA hX few_two (by decide) (by decide)).mono ?_
  rintro e w' ⟨v, rfl, ho, hb⟩
  rw [all_two.1] at ho
  rw [all_two.2]
  obtain ⟨g, c, rfl⟩ := own_open ho (by decide)
  exact ⟨g, c, rfl, ho, hb⟩
theorem al_does (g c B0 : Nat) (w : World) (hA : Rn.At encV w (some ⟨g, 0, none⟩) [(1, 0)]) (hX : RdX w (xB B0)) :
    Calls Tryz.prog 25 #[.slice (some ⟨g, 0, none⟩) 1 c, .agg #[.int .i64 0, .bool false, .bool false, .slice (some ⟨B0, 0, none⟩) 1 1, .slice none 0 0]] w fun e w' => ∃ g2 c2, e = .returned (.tuple #[.slice (some ⟨g2, 0, none⟩) 1 c2, .bool false]) ∧ Below w.heap.size w w' := by
  refine (does_any _ c [(1, 0)] (xB B0) w hA hX (show [rd1s].length ≤ 300 by decide) (show ([] : List Sp).length ≤ 300 by decide) (by decide)).mono ?_
  rintro e w' ⟨v, rfl, ho, hb⟩
  rw [show (xB B0).e = eB from rfl, fits_b.2] at ho
  rw [show (xB B0).e = eB from rfl, fits_b.1]
  obtain ⟨g, c, rfl⟩ := own_open ho (by decide)
  exact ⟨g, c, rfl, hb⟩
structure Al4 (wa W : World) : Prop where
  one : Blk W wa.heap.size #[.int .i64 1, .int .i64 1] 71
  ents : ItAt W (some ⟨wa.heap.size + 1 + 1 + 1, 0, none⟩) [xA (wa.heap.size + 1), xB (wa.heap.size + 1 + 1)] [eA, eB]
  bel : Below wa.heap.size wa W
theorem al4 (wa : World) : Al4 wa ((((wa.alloc (.cells #[.int .i64 1, .int .i64 1] 71)).alloc (.cells #[.int .i64 0, .int .i64 1, .int .i64 1, .bool true] 76)).alloc (.cells #[.int .i64 0, .int .i64 1, .int .i64 1, .bool false] 76)).alloc (.cells #[.int .i64 0, .bool true, .bool false, .slice none 0 0, .slice (some ⟨wa.heap.size + 1, 0, none⟩) 1 1, .int .i64 0, .bool false, .bool false, .slice (some ⟨wa.heap.size + 1 + 1, 0, none⟩) 1 1, .slice none 0 0] 79)) := by
  have h1 := Blk.new wa #[.int .i64 1, .int .i64 1] 71
  have h2 := Blk.new' (W := wa.alloc (.cells #[.int .i64 1, .int .i64 1] 71)) (b := wa.heap.size + 1) (by simp) (stepA wr1s) 76
  have h3 := Blk.new' (W := (wa.alloc (.cells #[.int .i64 1, .int .i64 1] 71)).alloc (.cells (stepA wr1s) 76)) (b := wa.heap.size + 1 + 1) (by simp) (stepA rd1s) 76
  refine ⟨((h1.alloc _).alloc _).alloc _, ⟨at_blk encX (c := #[.int .i64 0, .bool true, .bool false, .slice none 0 0, .slice (some ⟨wa.heap.size + 1, 0, none⟩) 1 1, .int .i64 0, .bool false, .bool false, .slice (some ⟨wa.heap.size + 1 + 1, 0, none⟩) 1 1, .slice none 0 0]) (t := 79) (Blk.new' (by simp) _ _) rfl, rfl, fun x hx => ?_⟩, (((below_new _ _).alloc (by simp) _).alloc (by simp; omega) _).alloc (by simp; omega) _⟩
  simp at hx
  rcases hx with rfl | rfl
  · exact xA_rd (vars_one (t := 76) ((h2.alloc _).alloc _) wr1s_ok)
  · exact xB_rd (vars_one (t := 76) (h3.alloc _) rd1s_ok)
theorem al_step (w : World) : VarsAt (w.alloc (.cells #[.int .i64 0, .int .i64 1, .int .i64 1, .bool false] 76)) (some ⟨w.heap.size, 0, none⟩) [rd1s] := vars_one (t := 76) (Blk.new w (stepA rd1s) 76) rd1s_ok
set_option maxHeartbeats 4000000 in
set_option maxRecDepth 100000 in
theorem alive_any (w : World) : Calls Tryz.prog 5 #[] w fun e w' => e = .returned (.bool true) ∧ Below w.heap.size w w' := by
  go_enter Tryz.func5, Tryz.ntmps5
  go_wp2_with fail
  refine (al_begin _).mono ?_
  rintro e wa ⟨g1, k1, rfl, ho, hb⟩
  have H1 := Lib.hid ho
  have B1 := Lib.hid hb
  clear ho hb
  have HO := Lib.hid (Blk.new wa #[.int .i64 1, .int .i64 1] 71)
  have H4 := Lib.hid (al4 wa)
  have o0 := HO.out.cell 0
  have o1 := HO.out.cell 1
  simp only [List.getElem?_toArray, List.getElem?_cons_zero, List.getElem?_cons_succ] at o0 o1
  go_wp2_with fail
  refine (al_all g1 k1 _ _ _ _ ((own_at H1.out).below H4.out.bel (Nat.le_refl _)) H4.out.ents).mono ?_
  rintro e wb ⟨g2, k2, rfl, ho, hb⟩
  have HN := Lib.hid (((own_at H1.out).below H4.out.bel (Nat.le_refl _)).below hb (Nat.le_refl _))
  have HA := Lib.hid (own_at ho)
  have HO2 := Lib.hid (H4.out.one.below hb)
  have B2 := Lib.hid (B1.out.trans ((H4.out.bel.trans (hb.mono H4.out.bel.size)).mono B1.out.size))
  clear ho hb o0 o1
  have o0 := HO2.out.cell 0
  have o1 := HO2.out.cell 1
  simp only [List.getElem?_toArray, List.getElem?_cons_zero, List.getElem?_cons_succ] at o0 o1
  have HS := Lib.hid (al_step wb)
  have HSB := Lib.hid (Rn.below_new wb (.cells #[.int .i64 0, .int .i64 1, .int .i64 1, .bool false] 76))
  go_wp2_with fail
  refine (al_does g1 k1 _ _ (HN.out.below HSB.out (Nat.le_refl _)) (xB_rd HS.out)).mono ?_
  rintro e wz ⟨g3, k3, rfl, hb⟩
  have hbz := HSB.out.trans (hb.mono HSB.out.size)
  have HAL := Lib.hid (show AL w g1 g2 wa.heap.size wz by
    obtain ⟨ad, e, n0, _⟩ := at2 (HN.out.below hbz (Nat.le_refl _)) (j := 0) rfl
    cases e
    obtain ⟨ad, e, a0, a1⟩ := at2 (HA.out.below hbz (Nat.le_refl _)) (j := 0) rfl
    cases e
    exact ⟨n0, a0, a1, (HO2.out.below hbz).cell 0, (HO2.out.below hbz).cell 1, B2.out.trans (hbz.mono B2.out.size)⟩)
  clear hb hbz o0 o1
  generalize wa.heap.size = o1 at HAL ⊢
  go_wp2
  refine wp_region_noPanic ?_
  refine region_z 44 (AL w g1 g2 o1) 43 1000 rfl (by kernel_rfl) (by exact HAL.out.below (Tx.below_drewN _ _ 1)) (fun hHeld => ?_)
  refine take_z 0 32 (.slice (some ⟨g1, 0, none⟩) 1 k1) rfl rfl (by kernel_rfl) (by kernel_rfl) (by kernel_rfl) (by kernel_rfl) (fun _ _ _ h => h) (Or.inl ⟨by rfl, by intro W hW; clear hW; go_simp⟩) hHeld ?_
  simp only [put_laws]
  refine take_z 1 33 (.int .i64 1) rfl rfl (by kernel_rfl) (by kernel_rfl) (by kernel_rfl) (by kernel_rfl) (fun _ _ _ h => h) (Or.inl ⟨by rfl, by intro W hW; clear hW; go_simp⟩) hHeld ?_
  simp only [put_laws]
  refine take_z 2 34 (.bool true) rfl rfl (by kernel_rfl) (by kernel_rfl) (by kernel_rfl) (by kernel_rfl) (fun _ _ _ h => h) (Or.inl ⟨by rfl, by intro W hW; clear hW; go_simp⟩) hHeld ?_
  simp only [put_laws]
  refine take_z 3 35 (.bool true) rfl rfl (by kernel_rfl) (by kernel_rfl) (by kernel_rfl) (by kernel_rfl) (fun _ _ _ h => h) (Or.inl ⟨by rfl, by intro W hW; clear hW; go_simp⟩) hHeld ?_
  simp only [put_laws]
  refine take_z 4 36 (.slice (some ⟨g1, 0, none⟩) 1 k1) rfl rfl (by kernel_rfl) (by kernel_rfl) (by kernel_rfl) (by kernel_rfl) (fun _ _ _ h => h) (Or.inl ⟨by rfl, by intro W hW; clear hW; go_simp⟩) hHeld ?_
  simp only [put_laws]
  refine take_z 5 37 (.pointer (some ⟨g1, 0, none⟩)) rfl rfl (by kernel_rfl) (by kernel_rfl) (by kernel_rfl) (by kernel_rfl) (fun _ _ _ h => h) (Or.inl ⟨by rfl, by intro W hW; clear hW; go_simp⟩) hHeld ?_
  simp only [put_laws]
  refine take_z 6 38 (.pointer (some ⟨g1, 0, none⟩)) rfl rfl (by kernel_rfl) (by kernel_rfl) (by kernel_rfl) (by kernel_rfl) (fun _ _ _ h => h) (Or.inl ⟨by rfl, by intro W hW; clear hW; go_simp⟩) hHeld ?_
  simp only [put_laws]
  refine take_z 7 39 (.int .i64 1) rfl rfl (by kernel_rfl) (by kernel_rfl) (by kernel_rfl) (by kernel_rfl) (fun _ _ _ h => h) (Or.inl ⟨by rfl, by intro W hW; have hc := hW.n0; clear hW; go_simp⟩) hHeld ?_
  simp only [put_laws]
  refine take_z 8 40 (.bool true) rfl rfl (by kernel_rfl) (by kernel_rfl) (by kernel_rfl) (by kernel_rfl) (fun _ _ _ h => h) (Or.inl ⟨by rfl, by intro W hW; clear hW; go_simp⟩) hHeld ?_
  simp only [put_laws]
  refine take_z 9 41 (.bool true) rfl rfl (by kernel_rfl) (by kernel_rfl) (by kernel_rfl) (by kernel_rfl) (fun _ _ _ h => h) (Or.inl ⟨by rfl, by intro W hW; clear hW; go_simp⟩) hHeld ?_
  simp only [put_laws]
  refine take_z 10 42 (.bool true) rfl rfl (by kernel_rfl) (by kernel_rfl) (by kernel_rfl) (by kernel_rfl) (fun _ _ _ h => h) (Or.inl ⟨by rfl, by intro W hW; clear hW; go_simp⟩) hHeld ?_
  simp only [put_laws]
  refine take_z 11 43 (.slice (some ⟨g2, 0, none⟩) 1 k2) rfl rfl (by kernel_rfl) (by kernel_rfl) (by kernel_rfl) (by kernel_rfl) (fun _ _ _ h => h) (Or.inl ⟨by rfl, by intro W hW; clear hW; go_simp⟩) hHeld ?_
  simp only [put_laws]
  refine take_z 12 44 (.int .i64 1) rfl rfl (by kernel_rfl) (by kernel_rfl) (by kernel_rfl) (by kernel_rfl) (fun _ _ _ h => h) (Or.inl ⟨by rfl, by intro W hW; clear hW; go_simp⟩) hHeld ?_
  simp only [put_laws]
  refine take_z 13 45 (.bool true) rfl rfl (by kernel_rfl) (by kernel_rfl) (by kernel_rfl) (by kernel_rfl) (fun _ _ _ h => h) (Or.inl ⟨by rfl, by intro W hW; clear hW; go_simp⟩) hHeld ?_
  simp only [put_laws]
  refine take_z 14 46 (.bool true) rfl rfl (by kernel_rfl) (by kernel_rfl) (by kernel_rfl) (by kernel_rfl) (fun _ _ _ h => h) (Or.inl ⟨by rfl, by intro W hW; clear hW; go_simp⟩) hHeld ?_
  simp only [put_laws]
  refine take_z 15 47 (.bool true) rfl rfl (by kernel_rfl) (by kernel_rfl) (by kernel_rfl) (by kernel_rfl) (fun _ _ _ h => h) (Or.inl ⟨by rfl, by intro W hW; clear hW; go_simp⟩) hHeld ?_
  simp only [put_laws]
  refine take_z 16 48 (.slice (some ⟨g2, 0, none⟩) 1 k2) rfl rfl (by kernel_rfl) (by kernel_rfl) (by kernel_rfl) (by kernel_rfl) (fun _ _ _ h => h) (Or.inl ⟨by rfl, by intro W hW; clear hW; go_simp⟩) hHeld ?_
  simp only [put_laws]
  refine take_z 17 49 (.pointer (some ⟨g2, 0, none⟩)) rfl rfl (by kernel_rfl) (by kernel_rfl) (by kernel_rfl) (by kernel_rfl) (fun _ _ _ h => h) (Or.inl ⟨by rfl, by intro W hW; clear hW; go_simp⟩) hHeld ?_
  simp only [put_laws]
  refine take_z 18 50 (.agg (#[.int .i64 1, .int .i64 1])) rfl rfl (by kernel_rfl) (by kernel_rfl) (by kernel_rfl) (by kernel_rfl) (fun _ _ _ h => h) (Or.inl ⟨by rfl, by intro W hW; have hc := hW.a0; have hd := hW.a1; clear hW; go_simp⟩) hHeld ?_
  simp only [put_laws]
  refine take_z 19 51 (.agg (#[.int .i64 1, .int .i64 1])) rfl rfl (by kernel_rfl) (by kernel_rfl) (by kernel_rfl) (by kernel_rfl) (fun _ _ _ h => h) (Or.inl ⟨by rfl, by intro W hW; have hc := hW.o0; have hd := hW.o1; clear hW; go_simp⟩) hHeld ?_
  simp only [put_laws]
  refine take_z 20 52 (.bool true) rfl rfl (by kernel_rfl) (by kernel_rfl) (by kernel_rfl) (by kernel_rfl) (fun _ _ _ h => h) (Or.inl ⟨by rfl, by intro W hW; clear hW; go_simp⟩) hHeld ?_
  simp only [put_laws]
  refine take_z 21 53 (.bool true) rfl rfl (by kernel_rfl) (by kernel_rfl) (by kernel_rfl) (by kernel_rfl) (fun _ _ _ h => h) (Or.inl ⟨by rfl, by intro W hW; clear hW; go_simp⟩) hHeld ?_
  simp only [put_laws]
  refine take_z 22 54 (.bool true) rfl rfl (by kernel_rfl) (by kernel_rfl) (by kernel_rfl) (by kernel_rfl) (fun _ _ _ h => h) (Or.inl ⟨by rfl, by intro W hW; clear hW; go_simp⟩) hHeld ?_
  simp only [put_laws]
  refine take_z 23 55 (.int .i64 (-1)) rfl rfl (by kernel_rfl) (by kernel_rfl) (by kernel_rfl) (by kernel_rfl) (fun _ _ _ h => h) (Or.inl ⟨by rfl, by intro W hW; clear hW; go_simp⟩) hHeld ?_
  simp only [put_laws]
  refine take_z 24 56 (.bool true) rfl rfl (by kernel_rfl) (by kernel_rfl) (by kernel_rfl) (by kernel_rfl) (fun _ _ _ h => h) (Or.inl ⟨by rfl, by intro W hW; clear hW; go_simp⟩) hHeld ?_
  simp only [put_laws]
  refine take_z 25 57 (.bool true) rfl rfl (by kernel_rfl) (by kernel_rfl) (by kernel_rfl) (by kernel_rfl) (fun _ _ _ h => h) (Or.inl ⟨by rfl, by intro W hW; clear hW; go_simp⟩) hHeld ?_
  simp only [put_laws]
  refine take_z 26 58 (.bool true) rfl rfl (by kernel_rfl) (by kernel_rfl) (by kernel_rfl) (by kernel_rfl) (fun _ _ _ h => h) (Or.inl ⟨by rfl, by intro W hW; clear hW; go_simp⟩) hHeld ?_
  simp only [put_laws]
  refine take_z 27 59 (.slice (some ⟨g3, 0, none⟩) 1 k3) rfl rfl (by kernel_rfl) (by kernel_rfl) (by kernel_rfl) (by kernel_rfl) (fun _ _ _ h => h) (Or.inl ⟨by rfl, by intro W hW; clear hW; go_simp⟩) hHeld ?_
  simp only [put_laws]
  refine take_z 28 60 (.int .i64 1) rfl rfl (by kernel_rfl) (by kernel_rfl) (by kernel_rfl) (by kernel_rfl) (fun _ _ _ h => h) (Or.inl ⟨by rfl, by intro W hW; clear hW; go_simp⟩) hHeld ?_
  simp only [put_laws]
  refine take_z 29 61 (.bool true) rfl rfl (by kernel_rfl) (by kernel_rfl) (by kernel_rfl) (by kernel_rfl) (fun _ _ _ h => h) (Or.inl ⟨by rfl, by intro W hW; clear hW; go_simp⟩) hHeld ?_
  simp only [put_laws]
  refine take_z 30 62 (.bool true) rfl rfl (by kernel_rfl) (by kernel_rfl) (by kernel_rfl) (by kernel_rfl) (fun _ _ _ h => h) (Or.inl ⟨by rfl, by intro W hW; clear hW; go_simp⟩) hHeld ?_
  simp only [put_laws]
  refine take_z 31 63 (.bool true) rfl rfl (by kernel_rfl) (by kernel_rfl) (by kernel_rfl) (by kernel_rfl) (fun _ _ _ h => h) (Or.inl ⟨by rfl, by intro W hW; clear hW; go_simp⟩) hHeld ?_
  simp only [put_laws]
  refine take_z 32 64 (.bool false) rfl rfl (by kernel_rfl) (by kernel_rfl) (by kernel_rfl) (by kernel_rfl) (fun _ _ _ h => h) (Or.inl ⟨by rfl, by intro W hW; clear hW; go_simp⟩) hHeld ?_
  simp only [put_laws]
  refine take_z 33 65 (.bool true) rfl rfl (by kernel_rfl) (by kernel_rfl) (by kernel_rfl) (by kernel_rfl) (fun _ _ _ h => h) (Or.inl ⟨by rfl, by intro W hW; clear hW; go_simp⟩) hHeld ?_
  simp only [put_laws]
  refine take_z 34 66 (.bool true) rfl rfl (by kernel_rfl) (by kernel_rfl) (by kernel_rfl) (by kernel_rfl) (fun _ _ _ h => h) (Or.inl ⟨by rfl, by intro W hW; clear hW; go_simp⟩) hHeld ?_
  simp only [put_laws]
  refine take_z 35 67 (.bool true) rfl rfl (by kernel_rfl) (by kernel_rfl) (by kernel_rfl) (by kernel_rfl) (fun _ _ _ h => h) (Or.inl ⟨by rfl, by intro W hW; clear hW; go_simp⟩) hHeld ?_
  simp only [put_laws]
  refine take_z 36 68 (.agg #[.int .i64 0, .bool false, .bool false, .slice none 0 0, .slice none 0 0]) rfl rfl (by kernel_rfl) (by kernel_rfl) (by kernel_rfl) (by kernel_rfl) (fun _ _ _ h => h) (Or.inl ⟨by rfl, by intro W hW; clear hW; go_simp⟩) hHeld ?_
  simp only [put_laws]
  refine take_z 37 69 (.agg (#[.int .i64 0, .bool true, .bool false, .slice none 0 0, .slice none 0 0])) rfl rfl (by kernel_rfl) (by kernel_rfl) (by kernel_rfl) (by kernel_rfl) (fun _ _ _ h => h) (Or.inl ⟨by rfl, by intro W hW; clear hW; go_simp⟩) hHeld ?_
  simp only [put_laws]
  refine anyZ_ready (rs := [38]) (by kernel_rfl) (by simp) ?_
  refine AllZ.cons rfl (fun K hK => ?_) AllZ.nil
  go_simp
  have hN : ItAt ((wz.alloc (.cells #[.int .i64 0, .bool false, .bool false, .slice none 0 0, .slice none 0 0, .int .i64 0, .bool true, .bool false, .slice none 0 0, .slice none 0 0] 79)).drew) (some ⟨wz.heap.size, 0, none⟩) [x0, x1] [e0, e1] := al_ents2 (wz.drew)
  have hPrev := hHeld
  have hHeld := hHeld.below (show Below _ _ ((wz.alloc (.cells #[.int .i64 0, .bool false, .bool false, .slice none 0 0, .slice none 0 0, .int .i64 0, .bool true, .bool false, .slice none 0 0, .slice none 0 0] 79)).drew) from Rn.below_new (wz.drew) (.cells #[.int .i64 0, .bool false, .bool false, .slice none 0 0, .slice none 0 0, .int .i64 0, .bool true, .bool false, .slice none 0 0, .slice none 0 0] 79))
  generalize (wz.alloc (.cells #[.int .i64 0, .bool false, .bool false, .slice none 0 0, .slice none 0 0, .int .i64 0, .bool true, .bool false, .slice none 0 0, .slice none 0 0] 79)).drew = w8 at *
  clear hPrev
  refine hK.out _ _ hHeld (fun hHeld => ?_)
  clear hK K
  refine anyZ_ready (rs := [39]) (by kernel_rfl) (by simp) ?_
  refine AllZ.cons rfl (fun K hK => ?_) AllZ.nil
  go_simp
  refine (al_comm _ _ _ hN).mono ?_
  rintro e w9 ⟨A9, c9, rfl, hb⟩
  try go_simp
  have hPrev := hHeld
  have hHeld := hHeld.below hb
  clear hN
  clear hPrev
  refine hK.out _ _ hHeld (fun hHeld => ?_)
  clear hK K
  refine take_z 40 72 (.int .i64 1) rfl rfl (by kernel_rfl) (by kernel_rfl) (by kernel_rfl) (by kernel_rfl) (fun _ _ _ h => h) (Or.inl ⟨by rfl, by intro W hW; clear hW; go_simp⟩) hHeld ?_
  simp only [put_laws]
  refine take_z 41 73 (.bool true) rfl rfl (by kernel_rfl) (by kernel_rfl) (by kernel_rfl) (by kernel_rfl) (fun _ _ _ h => h) (Or.inl ⟨by rfl, by intro W hW; clear hW; go_simp⟩) hHeld ?_
  simp only [put_laws]
  refine take_z 42 74 (.bool true) rfl rfl (by kernel_rfl) (by kernel_rfl) (by kernel_rfl) (by kernel_rfl) (fun _ _ _ h => h) (Or.inl ⟨by rfl, by intro W hW; clear hW; go_simp⟩) hHeld ?_
  simp only [put_laws]
  refine anyZ_ready (rs := [43]) (by kernel_rfl) (by simp) ?_
  refine AllZ.last rfl rfl (fun K hK => ?_)
  go_simp
  refine hK.out _ _ ?_
  clear hK K
  refine anyZ_done (by kernel_rfl) ?_ _
  refine NoPanic.normal ?_
  go_wp2
  go_ret
  exact ⟨rfl, hHeld.bel⟩
end Go.Proofs.YtfdfiiocccafkaaGreatDoor.Rp
