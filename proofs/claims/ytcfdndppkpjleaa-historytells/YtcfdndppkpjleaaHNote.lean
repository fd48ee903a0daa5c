/-
  Contracts of begun and note.
-/
import Derived.Test.YtcfdndppkpjleaaHFits
import Derived.Test.YtcfdndppkpjleaaRepEnts
import Derived.Test.YtcfdndppkpjleaaMRefBits
namespace Go.Proofs.Ytcfdndppkpjleaa.Hi
open Go.RowKit
open Tx (i64p right)
open Az
theorem of_begun (n : Nat) (hn : n ≤ 2000) (w : World) : Calls Try.prog 68 #[.int .i64 (n : Nat), .int .i64 9007199254740992] w fun e w' => e = .returned (.tuple #[.complex .f64 (cr (begun n)) (ci (begun n)), .bool true]) ∧ w = w' := by
  have h : Fl.mk (n : Nat) 9007199254740992 = some (n, 9007199254740992) := by
    have := Fl.mk_nat (b := n) (e := 9007199254740992) (by omega) (by unfold Fl.never; omega)
    exact this
  exact Cx.of_at _ _ _ w h
theorem of_end (b n : Nat) (hb : b ≤ n) (hn : n ≤ 2000) (c : Bool) (f t : Int → Option Nat) (w : World) : Calls Try.prog 68 #[.int .i64 (b : Nat), .int .i64 (n : Nat)] w fun e w' => e = .returned (.tuple #[.complex .f64 (cr ⟨b, n, c, f, t⟩) (ci ⟨b, n, c, f, t⟩), .bool true]) ∧ w = w' :=
  Cx.of_at _ _ _ w (Fl.mk_nat hb (by unfold Fl.never; omega))
theorem NM.row {W : World} {b n sz g : Nat} {f : Int → Option Nat} {cs : Array Value} (h : NM W b n sz f) (hg : b ≠ g) : NM (W.setRow g cs) b n sz f := by
  obtain ⟨D, ⟨es, clock, hh, F, hs, hD⟩, hm⟩ := h
  exact ⟨D, ⟨es, clock, (setRow_other _ _ _ _ hg).trans hh, F, hs, hD⟩, hm⟩
theorem NM.cell {W : World} {b n sz g i : Nat} {f : Int → Option Nat} {v : Value} (h : NM W b n sz f) (hg : b ≠ g) : NM (W.setCell ⟨g, i, none⟩ v) b n sz f := by
  obtain ⟨D, ⟨es, clock, hh, F, hs, hD⟩, hm⟩ := h
  exact ⟨D, ⟨es, clock, (Below.heap_setCell _ _ _ _ hg).trans hh, F, hs, hD⟩, hm⟩
def zeroC : Array Value := #[.complex .f64 0 0, .bool false, .map none, .map none]
theorem cour_size (x : Co) : (Try.prog.info? 82).map (·.size) = some (coA x).size := by
  show _ = some 4
  kernel_rfl
theorem coA_one (x : Co) : (coA x).all (·.oneCell') = true := by
  unfold coA
  rw [Array.all_eq_true']
  intro u hu
  simp at hu
  rcases hu with rfl | rfl | rfl | rfl <;> rfl
set_option maxRecDepth 100000 in
set_option maxHeartbeats 2000000 in
theorem begun_any (n : Nat) (hn : n ≤ 2000) (w : World) : Calls Try.prog 51 #[.int .i64 (n : Nat)] w fun r w' => ∃ x : Co, r = .returned (.agg (coA x)) ∧ x.c = begun n ∧ NM w' x.rb 0 0 (fun _ => none) ∧ NM w' x.wb 0 0 (fun _ => none) ∧ w.heap.size ≤ x.rb ∧ x.rb < x.wb ∧ Below w.heap.size w w' := by
  have HO := Lib.hid (fun W => of_begun n hn W)
  have HH := Lib.hid (show (((w.alloc (.cells zeroC 82)).alloc (.map #[] 0)).alloc (.map #[] 0)).heap[w.heap.size]? = some (.cells zeroC 82 (0, 0)) from by
    rw [Below.heap_alloc _ _ _ (by simp; omega), Below.heap_alloc _ _ _ (by simp)]; exact heap_alloc_new _ _)
  have HM := Lib.hid (show NM (((w.alloc (.cells zeroC 82)).alloc (.map #[] 0)).alloc (.map #[] 0)) (w.heap.size + 1) 0 0 (fun _ => none) from (nm_made' (by simp)).alloc _)
  have HM2 := Lib.hid (show NM (((w.alloc (.cells zeroC 82)).alloc (.map #[] 0)).alloc (.map #[] 0)) (w.heap.size + 2) 0 0 (fun _ => none) from nm_made' (by simp))
  have HW := Lib.hid (show Below w.heap.size w (((w.alloc (.cells zeroC 82)).alloc (.map #[] 0)).alloc (.map #[] 0)) from ((Rn.below_new w _).alloc (by simp) _).alloc (by simp; omega) _)
  have hmm := @run_makeMap Try.prog
  unfold zeroC at HH HM HM2 HW
  go_enter Try.func51, Try.ntmps51
  go_wp2_with fail
  refine (HO.out _).mono ?_
  rintro e w1 ⟨rfl, rfl⟩
  go_wp2_with (refine wpList_store_row rfl 82 (.tmp 2) (.tmp 13) rfl w.heap.size (coA ⟨w.heap.size + 1, w.heap.size + 2, begun n⟩) rfl rfl 82 _ HH.out (cour_size _) rfl (coA_one _) ?_)
  refine bodyPost_ret (results_cell_row rfl _ _ w.heap.size 82 _ (0, 0) _ rfl (setRow_heap _ _ _ _ _ _ HH.out) Try.underlying82 rfl (cour_size _)) rfl ⟨_, rfl, rfl, ?_, ?_, ?_, ?_, ?_⟩
  · exact HM.out.row (by omega)
  · exact HM2.out.row (by omega)
  · show w.heap.size ≤ w.heap.size + 1; omega
  · show w.heap.size + 1 < w.heap.size + 2; omega
  · exact setRow_below HW.out (Nat.le_refl _)
/-- a course in memory, where note is to write. -/
structure NAt (w : World) (k g o : Nat) (y : Co) : Prop where
  c0 : w.cell? ⟨g, o, none⟩ = some (.complex .f64 (cr y.c) (ci y.c))
  c1 : w.cell? ⟨g, o + 1, none⟩ = some (.bool y.c.com)
  c2 : w.cell? ⟨g, o + 2, none⟩ = some (.map (some y.rb))
  c3 : w.cell? ⟨g, o + 3, none⟩ = some (.map (some y.wb))
  f0 : w.frozen? ⟨g, o, none⟩ = false
  f1 : w.frozen? ⟨g, o + 1, none⟩ = false
  rd : ∃ sz, NM w y.rb k sz y.c.rd
  wr : ∃ sz, NM w y.wb k sz y.c.wr
theorem NAt.lt {w : World} {k g o : Nat} {y : Co} (h : NAt w k g o y) : g < w.heap.size := Rn.cell_lt h.c0
/-- the box of the event, the course, and all that lay there. -/
structure NSt (w : World) (e : Ev) (g o k : Nat) (y : Co) (W : World) : Prop where
  e0 : W.cell? ⟨w.heap.size, 0, none⟩ = some (.int .i64 e.kd)
  e2 : W.cell? ⟨w.heap.size, 2, none⟩ = some (.int .i64 e.x)
  c0 : W.cell? ⟨g, o, none⟩ = some (.complex .f64 (cr y.c) (ci y.c))
  c1 : W.cell? ⟨g, o + 1, none⟩ = some (.bool y.c.com)
  c2 : W.cell? ⟨g, o + 2, none⟩ = some (.map (some y.rb))
  c3 : W.cell? ⟨g, o + 3, none⟩ = some (.map (some y.wb))
  f0 : W.frozen? ⟨g, o, none⟩ = false
  f1 : W.frozen? ⟨g, o + 1, none⟩ = false
  rd : ∃ sz, NM W y.rb k sz y.c.rd
  wr : ∃ sz, NM W y.wb k sz y.c.wr
  bel : Below w.heap.size w W
theorem NSt.new {w : World} {e : Ev} {k g o : Nat} {y : Co} (h : NAt w k g o y) : NSt w e g o k y (w.alloc (.cells (evA e) 64)) := by
  have hE := EB.new w e
  have hb := hE.bel
  have hlt := h.lt
  have hf : ∀ i, (w.alloc (.cells (evA e) 64)).frozen? ⟨g, i, none⟩ = w.frozen? ⟨g, i, none⟩ := fun i => by simp only [World.frozen?, hb.block g hlt]
  obtain ⟨s1, h1⟩ := h.rd
  obtain ⟨s2, h2⟩ := h.wr
  exact ⟨hE.c0, hE.c2, (hb.cell (Rn.cell_lt h.c0)).trans h.c0, (hb.cell (Rn.cell_lt h.c1)).trans h.c1, (hb.cell (Rn.cell_lt h.c2)).trans h.c2, (hb.cell (Rn.cell_lt h.c3)).trans h.c3, (hf _).trans h.f0, (hf _).trans h.f1, ⟨s1, h1.alloc _⟩, ⟨s2, h2.alloc _⟩, hb⟩
theorem NSt.drew {w : World} {e : Ev} {g o k : Nat} {y : Co} {W : World} (h : NSt w e g o k y W) : NSt w e g o k y W.drew :=
  ⟨h.e0, h.e2, h.c0, h.c1, h.c2, h.c3, h.f0, h.f1, h.rd, h.wr, h.bel.drew⟩
theorem NSt.put {w : World} {e : Ev} {g o k : Nat} {y : Co} {W w' : World} {b : Nat} (h : NSt w e g o k y W) (hg : W.grownBy w' (some b)) : w.grownBy w' (some b) :=
  (show w.grownBy W (some b) from ⟨h.bel.os, h.bel.tape, h.bel.output, h.bel.size, fun i hi _ => h.bel.block i hi⟩).andThen hg (fun _ hj => .inr hj)
set_option maxRecDepth 100000 in
set_option maxHeartbeats 4000000 in
theorem note_r1 (g o n k : Nat) (y : Co) (id x vk vn : Int) (w : World) (h : NAt w k g o y) (hx : i64p x) (hrd : (y.c.rd x).isSome = true) :
    Calls Try.prog 52 #[.pointer (some ⟨g, o, none⟩), .int .i64 (n : Nat), .agg (evA ⟨1, id, x, vk, vn⟩)] w fun r w' => r = .returned (.tuple #[]) ∧ Below w.heap.size w w' := by
  have HN := Lib.hid (NSt.new (e := ⟨1, id, x, vk, vn⟩) h)
  have HX := Lib.hid hx
  unfold evA at HN ⊢
  dsimp only at HN ⊢
  generalize hwr : (y.c.wr x).isSome = b
  have HLrb := Lib.hid (show ∀ W, NSt w ⟨1, id, x, vk, vn⟩ g o k y W → (Instr.lookup 80 (.map (some y.rb)) (.int .i64 x) true).run Try.prog W = .ok (.tuple #[nv (y.c.rd x), .bool true]) W from fun W hW => by
    obtain ⟨sz, hm⟩ := hW.rd
    rw [hm.look HX.out, hrd])
  have HLwb := Lib.hid (show ∀ W, NSt w ⟨1, id, x, vk, vn⟩ g o k y W → (Instr.lookup 80 (.map (some y.wb)) (.int .i64 x) true).run Try.prog W = .ok (.tuple #[nv (y.c.wr x), .bool b]) W from fun W hW => by
    obtain ⟨sz, hm⟩ := hW.wr
    rw [hm.look HX.out, hwr])
  clear h hrd hwr hx
  go_enter Try.func52, Try.ntmps52
  go_wp2
  generalize w.alloc (.cells #[.int .i64 1, .int .i64 id, .int .i64 x, .int .i64 vk, .int .i64 vn] 64) = W1 at HN ⊢
  refine wp_region_noPanic ?_
  refine region_z 12 (fun W => NSt w ⟨1, id, x, vk, vn⟩ g o k y W) 12 1000 rfl (by kernel_rfl) (by exact HN.out.drew) (fun hHeld => ?_)
  refine take_z 0 15 (.pointer (some ⟨g, o, none⟩)) rfl rfl (by kernel_rfl) (by kernel_rfl) (by kernel_rfl) (by kernel_rfl) (fun _ _ _ h => h) (Or.inl ⟨by rfl, by intro W hW; clear hW; go_simp⟩) hHeld ?_
  simp only [put_laws]
  refine take_z 1 16 (.pointer (some ⟨g, o, none⟩)) rfl rfl (by kernel_rfl) (by kernel_rfl) (by kernel_rfl) (by kernel_rfl) (fun _ _ _ h => h) (Or.inl ⟨by rfl, by intro W hW; clear hW; go_simp⟩) hHeld ?_
  simp only [put_laws]
  refine take_z 2 17 (.pointer (some ⟨g, o + 2, none⟩)) rfl rfl (by kernel_rfl) (by kernel_rfl) (by kernel_rfl) (by kernel_rfl) (fun _ _ _ h => h) (Or.inl ⟨by rfl, by intro W hW; clear hW; go_simp⟩) hHeld ?_
  simp only [put_laws]
  refine take_z 3 18 (.map (some y.rb)) rfl rfl (by kernel_rfl) (by kernel_rfl) (by kernel_rfl) (by kernel_rfl) (fun _ _ _ h => h) (Or.inl ⟨by rfl, by intro W hW; have c := hW.c2; clear hW; go_simp⟩) hHeld ?_
  simp only [put_laws]
  refine take_z 4 19 (.pointer (some ⟨w.heap.size, 2, none⟩)) rfl rfl (by kernel_rfl) (by kernel_rfl) (by kernel_rfl) (by kernel_rfl) (fun _ _ _ h => h) (Or.inl ⟨by rfl, by intro W hW; clear hW; go_simp⟩) hHeld ?_
  simp only [put_laws]
  refine take_z 5 20 (.int .i64 x) rfl rfl (by kernel_rfl) (by kernel_rfl) (by kernel_rfl) (by kernel_rfl) (fun _ _ _ h => h) (Or.inl ⟨by rfl, by intro W hW; have c := hW.e2; clear hW; go_simp⟩) hHeld ?_
  simp only [put_laws]
  refine take_z 6 21 (.tuple #[nv (y.c.rd x), .bool true]) rfl rfl (by kernel_rfl) (by kernel_rfl) (by kernel_rfl) (by kernel_rfl) (fun _ _ _ h => h) (Or.inl ⟨by rfl, by intro W hW; have hl := HLrb.out W hW; clear hW; go_simp⟩) hHeld ?_
  simp only [put_laws]
  refine take_z 7 14 (.tuple #[nv (y.c.rd x), .bool true]) rfl rfl (by kernel_rfl) (by kernel_rfl) (by kernel_rfl) (by kernel_rfl) (fun _ _ _ h => h) (Or.inl ⟨by rfl, by intro W hW; clear hW; go_simp⟩) hHeld ?_
  simp only [put_laws]
  refine take_z 8 22 (nv (y.c.rd x)) rfl rfl (by kernel_rfl) (by kernel_rfl) (by kernel_rfl) (by kernel_rfl) (fun _ _ _ h => h) (Or.inl ⟨by rfl, by intro W hW; clear hW; go_simp⟩) hHeld ?_
  simp only [put_laws]
  refine take_z 9 23 (.bool true) rfl rfl (by kernel_rfl) (by kernel_rfl) (by kernel_rfl) (by kernel_rfl) (fun _ _ _ h => h) (Or.inl ⟨by rfl, by intro W hW; clear hW; go_simp⟩) hHeld ?_
  simp only [put_laws]
  refine take_z 10 6 (nv (y.c.rd x)) rfl rfl (by kernel_rfl) (by kernel_rfl) (by kernel_rfl) (by kernel_rfl) (fun _ _ _ h => h) (Or.inl ⟨by rfl, by intro W hW; clear hW; go_simp⟩) hHeld ?_
  simp only [put_laws]
  refine take_z 11 7 (.bool true) rfl rfl (by kernel_rfl) (by kernel_rfl) (by kernel_rfl) (by kernel_rfl) (fun _ _ _ h => h) (Or.inl ⟨by rfl, by intro W hW; clear hW; go_simp⟩) hHeld ?_
  simp only [put_laws]
  refine anyZ_done (by kernel_rfl) ?_ _
  refine NoPanic.normal ?_
  have HH := Lib.hid hHeld
  clear hHeld
  go_wp2
  generalize W1.drew = W2 at HH ⊢
  refine wp_region_noPanic ?_
  refine region_z 12 (fun W => NSt w ⟨1, id, x, vk, vn⟩ g o k y W) 12 1000 rfl (by kernel_rfl) (by exact HH.out.drew) (fun hHeld => ?_)
  refine take_z 0 25 (.pointer (some ⟨g, o, none⟩)) rfl rfl (by kernel_rfl) (by kernel_rfl) (by kernel_rfl) (by kernel_rfl) (fun _ _ _ h => h) (Or.inl ⟨by rfl, by intro W hW; clear hW; go_simp⟩) hHeld ?_
  simp only [put_laws]
  refine take_z 1 26 (.pointer (some ⟨g, o, none⟩)) rfl rfl (by kernel_rfl) (by kernel_rfl) (by kernel_rfl) (by kernel_rfl) (fun _ _ _ h => h) (Or.inl ⟨by rfl, by intro W hW; clear hW; go_simp⟩) hHeld ?_
  simp only [put_laws]
  refine take_z 2 27 (.pointer (some ⟨g, o + 3, none⟩)) rfl rfl (by kernel_rfl) (by kernel_rfl) (by kernel_rfl) (by kernel_rfl) (fun _ _ _ h => h) (Or.inl ⟨by rfl, by intro W hW; clear hW; go_simp⟩) hHeld ?_
  simp only [put_laws]
  refine take_z 3 28 (.map (some y.wb)) rfl rfl (by kernel_rfl) (by kernel_rfl) (by kernel_rfl) (by kernel_rfl) (fun _ _ _ h => h) (Or.inl ⟨by rfl, by intro W hW; have c := hW.c3; clear hW; go_simp⟩) hHeld ?_
  simp only [put_laws]
  refine take_z 4 29 (.pointer (some ⟨w.heap.size, 2, none⟩)) rfl rfl (by kernel_rfl) (by kernel_rfl) (by kernel_rfl) (by kernel_rfl) (fun _ _ _ h => h) (Or.inl ⟨by rfl, by intro W hW; clear hW; go_simp⟩) hHeld ?_
  simp only [put_laws]
  refine take_z 5 30 (.int .i64 x) rfl rfl (by kernel_rfl) (by kernel_rfl) (by kernel_rfl) (by kernel_rfl) (fun _ _ _ h => h) (Or.inl ⟨by rfl, by intro W hW; have c := hW.e2; clear hW; go_simp⟩) hHeld ?_
  simp only [put_laws]
  refine take_z 6 31 (.tuple #[nv (y.c.wr x), .bool b]) rfl rfl (by kernel_rfl) (by kernel_rfl) (by kernel_rfl) (by kernel_rfl) (fun _ _ _ h => h) (Or.inl ⟨by rfl, by intro W hW; have hl := HLwb.out W hW; clear hW; go_simp⟩) hHeld ?_
  simp only [put_laws]
  refine take_z 7 24 (.tuple #[nv (y.c.wr x), .bool b]) rfl rfl (by kernel_rfl) (by kernel_rfl) (by kernel_rfl) (by kernel_rfl) (fun _ _ _ h => h) (Or.inl ⟨by rfl, by intro W hW; clear hW; go_simp⟩) hHeld ?_
  simp only [put_laws]
  refine take_z 8 32 (nv (y.c.wr x)) rfl rfl (by kernel_rfl) (by kernel_rfl) (by kernel_rfl) (by kernel_rfl) (fun _ _ _ h => h) (Or.inl ⟨by rfl, by intro W hW; clear hW; go_simp⟩) hHeld ?_
  simp only [put_laws]
  refine take_z 9 33 (.bool b) rfl rfl (by kernel_rfl) (by kernel_rfl) (by kernel_rfl) (by kernel_rfl) (fun _ _ _ h => h) (Or.inl ⟨by rfl, by intro W hW; clear hW; go_simp⟩) hHeld ?_
  simp only [put_laws]
  refine take_z 10 8 (nv (y.c.wr x)) rfl rfl (by kernel_rfl) (by kernel_rfl) (by kernel_rfl) (by kernel_rfl) (fun _ _ _ h => h) (Or.inl ⟨by rfl, by intro W hW; clear hW; go_simp⟩) hHeld ?_
  simp only [put_laws]
  refine take_z 11 9 (.bool b) rfl rfl (by kernel_rfl) (by kernel_rfl) (by kernel_rfl) (by kernel_rfl) (fun _ _ _ h => h) (Or.inl ⟨by rfl, by intro W hW; clear hW; go_simp⟩) hHeld ?_
  simp only [put_laws]
  refine anyZ_done (by kernel_rfl) ?_ _
  refine NoPanic.normal ?_
  have HH2 := Lib.hid hHeld
  clear hHeld
  go_wp2
  go_end0
  exact ⟨rfl, HH2.out.bel⟩
set_option maxRecDepth 100000 in
set_option maxHeartbeats 4000000 in
theorem note_r2 (g o n k : Nat) (y : Co) (id x vk vn : Int) (w : World) (h : NAt w k g o y) (hx : i64p x) (hrd : (y.c.rd x).isSome = false) (hwr : (y.c.wr x).isSome = true) :
    Calls Try.prog 52 #[.pointer (some ⟨g, o, none⟩), .int .i64 (n : Nat), .agg (evA ⟨1, id, x, vk, vn⟩)] w fun r w' => r = .returned (.tuple #[]) ∧ Below w.heap.size w w' := by
  have HN := Lib.hid (NSt.new (e := ⟨1, id, x, vk, vn⟩) h)
  have HX := Lib.hid hx
  unfold evA at HN ⊢
  dsimp only at HN ⊢
  have HLrb := Lib.hid (show ∀ W, NSt w ⟨1, id, x, vk, vn⟩ g o k y W → (Instr.lookup 80 (.map (some y.rb)) (.int .i64 x) true).run Try.prog W = .ok (.tuple #[nv (y.c.rd x), .bool false]) W from fun W hW => by
    obtain ⟨sz, hm⟩ := hW.rd
    rw [hm.look HX.out, hrd])
  have HLwb := Lib.hid (show ∀ W, NSt w ⟨1, id, x, vk, vn⟩ g o k y W → (Instr.lookup 80 (.map (some y.wb)) (.int .i64 x) true).run Try.prog W = .ok (.tuple #[nv (y.c.wr x), .bool true]) W from fun W hW => by
    obtain ⟨sz, hm⟩ := hW.wr
    rw [hm.look HX.out, hwr])
  clear h hrd hwr hx
  go_enter Try.func52, Try.ntmps52
  go_wp2
  generalize w.alloc (.cells #[.int .i64 1, .int .i64 id, .int .i64 x, .int .i64 vk, .int .i64 vn] 64) = W1 at HN ⊢
  refine wp_region_noPanic ?_
  refine region_z 12 (fun W => NSt w ⟨1, id, x, vk, vn⟩ g o k y W) 12 1000 rfl (by kernel_rfl) (by exact HN.out.drew) (fun hHeld => ?_)
  refine take_z 0 15 (.pointer (some ⟨g, o, none⟩)) rfl rfl (by kernel_rfl) (by kernel_rfl) (by kernel_rfl) (by kernel_rfl) (fun _ _ _ h => h) (Or.inl ⟨by rfl, by intro W hW; clear hW; go_simp⟩) hHeld ?_
  simp only [put_laws]
  refine take_z 1 16 (.pointer (some ⟨g, o, none⟩)) rfl rfl (by kernel_rfl) (by kernel_rfl) (by kernel_rfl) (by kernel_rfl) (fun _ _ _ h => h) (Or.inl ⟨by rfl, by intro W hW; clear hW; go_simp⟩) hHeld ?_
  simp only [put_laws]
  refine take_z 2 17 (.pointer (some ⟨g, o + 2, none⟩)) rfl rfl (by kernel_rfl) (by kernel_rfl) (by kernel_rfl) (by kernel_rfl) (fun _ _ _ h => h) (Or.inl ⟨by rfl, by intro W hW; clear hW; go_simp⟩) hHeld ?_
  simp only [put_laws]
  refine take_z 3 18 (.map (some y.rb)) rfl rfl (by kernel_rfl) (by kernel_rfl) (by kernel_rfl) (by kernel_rfl) (fun _ _ _ h => h) (Or.inl ⟨by rfl, by intro W hW; have c := hW.c2; clear hW; go_simp⟩) hHeld ?_
  simp only [put_laws]
  refine take_z 4 19 (.pointer (some ⟨w.heap.size, 2, none⟩)) rfl rfl (by kernel_rfl) (by kernel_rfl) (by kernel_rfl) (by kernel_rfl) (fun _ _ _ h => h) (Or.inl ⟨by rfl, by intro W hW; clear hW; go_simp⟩) hHeld ?_
  simp only [put_laws]
  refine take_z 5 20 (.int .i64 x) rfl rfl (by kernel_rfl) (by kernel_rfl) (by kernel_rfl) (by kernel_rfl) (fun _ _ _ h => h) (Or.inl ⟨by rfl, by intro W hW; have c := hW.e2; clear hW; go_simp⟩) hHeld ?_
  simp only [put_laws]
  refine take_z 6 21 (.tuple #[nv (y.c.rd x), .bool false]) rfl rfl (by kernel_rfl) (by kernel_rfl) (by kernel_rfl) (by kernel_rfl) (fun _ _ _ h => h) (Or.inl ⟨by rfl, by intro W hW; have hl := HLrb.out W hW; clear hW; go_simp⟩) hHeld ?_
  simp only [put_laws]
  refine take_z 7 14 (.tuple #[nv (y.c.rd x), .bool false]) rfl rfl (by kernel_rfl) (by kernel_rfl) (by kernel_rfl) (by kernel_rfl) (fun _ _ _ h => h) (Or.inl ⟨by rfl, by intro W hW; clear hW; go_simp⟩) hHeld ?_
  simp only [put_laws]
  refine take_z 8 22 (nv (y.c.rd x)) rfl rfl (by kernel_rfl) (by kernel_rfl) (by kernel_rfl) (by kernel_rfl) (fun _ _ _ h => h) (Or.inl ⟨by rfl, by intro W hW; clear hW; go_simp⟩) hHeld ?_
  simp only [put_laws]
  refine take_z 9 23 (.bool false) rfl rfl (by kernel_rfl) (by kernel_rfl) (by kernel_rfl) (by kernel_rfl) (fun _ _ _ h => h) (Or.inl ⟨by rfl, by intro W hW; clear hW; go_simp⟩) hHeld ?_
  simp only [put_laws]
  refine take_z 10 6 (nv (y.c.rd x)) rfl rfl (by kernel_rfl) (by kernel_rfl) (by kernel_rfl) (by kernel_rfl) (fun _ _ _ h => h) (Or.inl ⟨by rfl, by intro W hW; clear hW; go_simp⟩) hHeld ?_
  simp only [put_laws]
  refine take_z 11 7 (.bool false) rfl rfl (by kernel_rfl) (by kernel_rfl) (by kernel_rfl) (by kernel_rfl) (fun _ _ _ h => h) (Or.inl ⟨by rfl, by intro W hW; clear hW; go_simp⟩) hHeld ?_
  simp only [put_laws]
  refine anyZ_done (by kernel_rfl) ?_ _
  refine NoPanic.normal ?_
  have HH := Lib.hid hHeld
  clear hHeld
  go_wp2
  generalize W1.drew = W2 at HH ⊢
  refine wp_region_noPanic ?_
  refine region_z 12 (fun W => NSt w ⟨1, id, x, vk, vn⟩ g o k y W) 12 1000 rfl (by kernel_rfl) (by exact HH.out.drew) (fun hHeld => ?_)
  refine take_z 0 25 (.pointer (some ⟨g, o, none⟩)) rfl rfl (by kernel_rfl) (by kernel_rfl) (by kernel_rfl) (by kernel_rfl) (fun _ _ _ h => h) (Or.inl ⟨by rfl, by intro W hW; clear hW; go_simp⟩) hHeld ?_
  simp only [put_laws]
  refine take_z 1 26 (.pointer (some ⟨g, o, none⟩)) rfl rfl (by kernel_rfl) (by kernel_rfl) (by kernel_rfl) (by kernel_rfl) (fun _ _ _ h => h) (Or.inl ⟨by rfl, by intro W hW; clear hW; go_simp⟩) hHeld ?_
  simp only [put_laws]
  refine take_z 2 27 (.pointer (some ⟨g, o + 3, none⟩)) rfl rfl (by kernel_rfl) (by kernel_rfl) (by kernel_rfl) (by kernel_rfl) (fun _ _ _ h => h) (Or.inl ⟨by rfl, by intro W hW; clear hW; go_simp⟩) hHeld ?_
  simp only [put_laws]
  refine take_z 3 28 (.map (some y.wb)) rfl rfl (by kernel_rfl) (by kernel_rfl) (by kernel_rfl) (by kernel_rfl) (fun _ _ _ h => h) (Or.inl ⟨by rfl, by intro W hW; have c := hW.c3; clear hW; go_simp⟩) hHeld ?_
  simp only [put_laws]
  refine take_z 4 29 (.pointer (some ⟨w.heap.size, 2, none⟩)) rfl rfl (by kernel_rfl) (by kernel_rfl) (by kernel_rfl) (by kernel_rfl) (fun _ _ _ h => h) (Or.inl ⟨by rfl, by intro W hW; clear hW; go_simp⟩) hHeld ?_
  simp only [put_laws]
  refine take_z 5 30 (.int .i64 x) rfl rfl (by kernel_rfl) (by kernel_rfl) (by kernel_rfl) (by kernel_rfl) (fun _ _ _ h => h) (Or.inl ⟨by rfl, by intro W hW; have c := hW.e2; clear hW; go_simp⟩) hHeld ?_
  simp only [put_laws]
  refine take_z 6 31 (.tuple #[nv (y.c.wr x), .bool true]) rfl rfl (by kernel_rfl) (by kernel_rfl) (by kernel_rfl) (by kernel_rfl) (fun _ _ _ h => h) (Or.inl ⟨by rfl, by intro W hW; have hl := HLwb.out W hW; clear hW; go_simp⟩) hHeld ?_
  simp only [put_laws]
  refine take_z 7 24 (.tuple #[nv (y.c.wr x), .bool true]) rfl rfl (by kernel_rfl) (by kernel_rfl) (by kernel_rfl) (by kernel_rfl) (fun _ _ _ h => h) (Or.inl ⟨by rfl, by intro W hW; clear hW; go_simp⟩) hHeld ?_
  simp only [put_laws]
  refine take_z 8 32 (nv (y.c.wr x)) rfl rfl (by kernel_rfl) (by kernel_rfl) (by kernel_rfl) (by kernel_rfl) (fun _ _ _ h => h) (Or.inl ⟨by rfl, by intro W hW; clear hW; go_simp⟩) hHeld ?_
  simp only [put_laws]
  refine take_z 9 33 (.bool true) rfl rfl (by kernel_rfl) (by kernel_rfl) (by kernel_rfl) (by kernel_rfl) (fun _ _ _ h => h) (Or.inl ⟨by rfl, by intro W hW; clear hW; go_simp⟩) hHeld ?_
  simp only [put_laws]
  refine take_z 10 8 (nv (y.c.wr x)) rfl rfl (by kernel_rfl) (by kernel_rfl) (by kernel_rfl) (by kernel_rfl) (fun _ _ _ h => h) (Or.inl ⟨by rfl, by intro W hW; clear hW; go_simp⟩) hHeld ?_
  simp only [put_laws]
  refine take_z 11 9 (.bool true) rfl rfl (by kernel_rfl) (by kernel_rfl) (by kernel_rfl) (by kernel_rfl) (fun _ _ _ h => h) (Or.inl ⟨by rfl, by intro W hW; clear hW; go_simp⟩) hHeld ?_
  simp only [put_laws]
  refine anyZ_done (by kernel_rfl) ?_ _
  refine NoPanic.normal ?_
  have HH2 := Lib.hid hHeld
  clear hHeld
  go_wp2
  go_end0
  exact ⟨rfl, HH2.out.bel⟩
set_option maxRecDepth 100000 in
set_option maxHeartbeats 4000000 in
theorem note_r3 (g o n k : Nat) (y : Co) (id x vk vn : Int) (w : World) (h : NAt w k g o y) (hn : n ≤ 2000) (hx : i64p x) (hrd : (y.c.rd x).isSome = false) (hwr : (y.c.wr x).isSome = false) (hk : k ≤ 2000) :
    Calls Try.prog 52 #[.pointer (some ⟨g, o, none⟩), .int .i64 (n : Nat), .agg (evA ⟨1, id, x, vk, vn⟩)] w fun r w' => r = .returned (.tuple #[]) ∧ w.grownBy w' (some y.rb) ∧ ∃ sz, NM w' y.rb (k + 1) sz (upd y.c.rd x n) := by
  have HN := Lib.hid (NSt.new (e := ⟨1, id, x, vk, vn⟩) h)
  have HX := Lib.hid hx
  unfold evA at HN ⊢
  dsimp only at HN ⊢
  have HLrb := Lib.hid (show ∀ W, NSt w ⟨1, id, x, vk, vn⟩ g o k y W → (Instr.lookup 80 (.map (some y.rb)) (.int .i64 x) true).run Try.prog W = .ok (.tuple #[nv (y.c.rd x), .bool false]) W from fun W hW => by
    obtain ⟨sz, hm⟩ := hW.rd
    rw [hm.look HX.out, hrd])
  have HLwb := Lib.hid (show ∀ W, NSt w ⟨1, id, x, vk, vn⟩ g o k y W → (Instr.lookup 80 (.map (some y.wb)) (.int .i64 x) true).run Try.prog W = .ok (.tuple #[nv (y.c.wr x), .bool false]) W from fun W hW => by
    obtain ⟨sz, hm⟩ := hW.wr
    rw [hm.look HX.out, hwr])
  have HK := Lib.hid hk
  clear h hrd hwr hx hk
  go_enter Try.func52, Try.ntmps52
  go_wp2
  generalize w.alloc (.cells #[.int .i64 1, .int .i64 id, .int .i64 x, .int .i64 vk, .int .i64 vn] 64) = W1 at HN ⊢
  refine wp_region_noPanic ?_
  refine region_z 12 (fun W => NSt w ⟨1, id, x, vk, vn⟩ g o k y W) 12 1000 rfl (by kernel_rfl) (by exact HN.out.drew) (fun hHeld => ?_)
  refine take_z 0 15 (.pointer (some ⟨g, o, none⟩)) rfl rfl (by kernel_rfl) (by kernel_rfl) (by kernel_rfl) (by kernel_rfl) (fun _ _ _ h => h) (Or.inl ⟨by rfl, by intro W hW; clear hW; go_simp⟩) hHeld ?_
  simp only [put_laws]
  refine take_z 1 16 (.pointer (some ⟨g, o, none⟩)) rfl rfl (by kernel_rfl) (by kernel_rfl) (by kernel_rfl) (by kernel_rfl) (fun _ _ _ h => h) (Or.inl ⟨by rfl, by intro W hW; clear hW; go_simp⟩) hHeld ?_
  simp only [put_laws]
  refine take_z 2 17 (.pointer (some ⟨g, o + 2, none⟩)) rfl rfl (by kernel_rfl) (by kernel_rfl) (by kernel_rfl) (by kernel_rfl) (fun _ _ _ h => h) (Or.inl ⟨by rfl, by intro W hW; clear hW; go_simp⟩) hHeld ?_
  simp only [put_laws]
  refine take_z 3 18 (.map (some y.rb)) rfl rfl (by kernel_rfl) (by kernel_rfl) (by kernel_rfl) (by kernel_rfl) (fun _ _ _ h => h) (Or.inl ⟨by rfl, by intro W hW; have c := hW.c2; clear hW; go_simp⟩) hHeld ?_
  simp only [put_laws]
  refine take_z 4 19 (.pointer (some ⟨w.heap.size, 2, none⟩)) rfl rfl (by kernel_rfl) (by kernel_rfl) (by kernel_rfl) (by kernel_rfl) (fun _ _ _ h => h) (Or.inl ⟨by rfl, by intro W hW; clear hW; go_simp⟩) hHeld ?_
  simp only [put_laws]
  refine take_z 5 20 (.int .i64 x) rfl rfl (by kernel_rfl) (by kernel_rfl) (by kernel_rfl) (by kernel_rfl) (fun _ _ _ h => h) (Or.inl ⟨by rfl, by intro W hW; have c := hW.e2; clear hW; go_simp⟩) hHeld ?_
  simp only [put_laws]
  refine take_z 6 21 (.tuple #[nv (y.c.rd x), .bool false]) rfl rfl (by kernel_rfl) (by kernel_rfl) (by kernel_rfl) (by kernel_rfl) (fun _ _ _ h => h) (Or.inl ⟨by rfl, by intro W hW; have hl := HLrb.out W hW; clear hW; go_simp⟩) hHeld ?_
  simp only [put_laws]
  refine take_z 7 14 (.tuple #[nv (y.c.rd x), .bool false]) rfl rfl (by kernel_rfl) (by kernel_rfl) (by kernel_rfl) (by kernel_rfl) (fun _ _ _ h => h) (Or.inl ⟨by rfl, by intro W hW; clear hW; go_simp⟩) hHeld ?_
  simp only [put_laws]
  refine take_z 8 22 (nv (y.c.rd x)) rfl rfl (by kernel_rfl) (by kernel_rfl) (by kernel_rfl) (by kernel_rfl) (fun _ _ _ h => h) (Or.inl ⟨by rfl, by intro W hW; clear hW; go_simp⟩) hHeld ?_
  simp only [put_laws]
  refine take_z 9 23 (.bool false) rfl rfl (by kernel_rfl) (by kernel_rfl) (by kernel_rfl) (by kernel_rfl) (fun _ _ _ h => h) (Or.inl ⟨by rfl, by intro W hW; clear hW; go_simp⟩) hHeld ?_
  simp only [put_laws]
  refine take_z 10 6 (nv (y.c.rd x)) rfl rfl (by kernel_rfl) (by kernel_rfl) (by kernel_rfl) (by kernel_rfl) (fun _ _ _ h => h) (Or.inl ⟨by rfl, by intro W hW; clear hW; go_simp⟩) hHeld ?_
  simp only [put_laws]
  refine take_z 11 7 (.bool false) rfl rfl (by kernel_rfl) (by kernel_rfl) (by kernel_rfl) (by kernel_rfl) (fun _ _ _ h => h) (Or.inl ⟨by rfl, by intro W hW; clear hW; go_simp⟩) hHeld ?_
  simp only [put_laws]
  refine anyZ_done (by kernel_rfl) ?_ _
  refine NoPanic.normal ?_
  have HH := Lib.hid hHeld
  clear hHeld
  go_wp2
  generalize W1.drew = W2 at HH ⊢
  refine wp_region_noPanic ?_
  refine region_z 12 (fun W => NSt w ⟨1, id, x, vk, vn⟩ g o k y W) 12 1000 rfl (by kernel_rfl) (by exact HH.out.drew) (fun hHeld => ?_)
  refine take_z 0 25 (.pointer (some ⟨g, o, none⟩)) rfl rfl (by kernel_rfl) (by kernel_rfl) (by kernel_rfl) (by kernel_rfl) (fun _ _ _ h => h) (Or.inl ⟨by rfl, by intro W hW; clear hW; go_simp⟩) hHeld ?_
  simp only [put_laws]
  refine take_z 1 26 (.pointer (some ⟨g, o, none⟩)) rfl rfl (by kernel_rfl) (by kernel_rfl) (by kernel_rfl) (by kernel_rfl) (fun _ _ _ h => h) (Or.inl ⟨by rfl, by intro W hW; clear hW; go_simp⟩) hHeld ?_
  simp only [put_laws]
  refine take_z 2 27 (.pointer (some ⟨g, o + 3, none⟩)) rfl rfl (by kernel_rfl) (by kernel_rfl) (by kernel_rfl) (by kernel_rfl) (fun _ _ _ h => h) (Or.inl ⟨by rfl, by intro W hW; clear hW; go_simp⟩) hHeld ?_
  simp only [put_laws]
  refine take_z 3 28 (.map (some y.wb)) rfl rfl (by kernel_rfl) (by kernel_rfl) (by kernel_rfl) (by kernel_rfl) (fun _ _ _ h => h) (Or.inl ⟨by rfl, by intro W hW; have c := hW.c3; clear hW; go_simp⟩) hHeld ?_
  simp only [put_laws]
  refine take_z 4 29 (.pointer (some ⟨w.heap.size, 2, none⟩)) rfl rfl (by kernel_rfl) (by kernel_rfl) (by kernel_rfl) (by kernel_rfl) (fun _ _ _ h => h) (Or.inl ⟨by rfl, by intro W hW; clear hW; go_simp⟩) hHeld ?_
  simp only [put_laws]
  refine take_z 5 30 (.int .i64 x) rfl rfl (by kernel_rfl) (by kernel_rfl) (by kernel_rfl) (by kernel_rfl) (fun _ _ _ h => h) (Or.inl ⟨by rfl, by intro W hW; have c := hW.e2; clear hW; go_simp⟩) hHeld ?_
  simp only [put_laws]
  refine take_z 6 31 (.tuple #[nv (y.c.wr x), .bool false]) rfl rfl (by kernel_rfl) (by kernel_rfl) (by kernel_rfl) (by kernel_rfl) (fun _ _ _ h => h) (Or.inl ⟨by rfl, by intro W hW; have hl := HLwb.out W hW; clear hW; go_simp⟩) hHeld ?_
  simp only [put_laws]
  refine take_z 7 24 (.tuple #[nv (y.c.wr x), .bool false]) rfl rfl (by kernel_rfl) (by kernel_rfl) (by kernel_rfl) (by kernel_rfl) (fun _ _ _ h => h) (Or.inl ⟨by rfl, by intro W hW; clear hW; go_simp⟩) hHeld ?_
  simp only [put_laws]
  refine take_z 8 32 (nv (y.c.wr x)) rfl rfl (by kernel_rfl) (by kernel_rfl) (by kernel_rfl) (by kernel_rfl) (fun _ _ _ h => h) (Or.inl ⟨by rfl, by intro W hW; clear hW; go_simp⟩) hHeld ?_
  simp only [put_laws]
  refine take_z 9 33 (.bool false) rfl rfl (by kernel_rfl) (by kernel_rfl) (by kernel_rfl) (by kernel_rfl) (fun _ _ _ h => h) (Or.inl ⟨by rfl, by intro W hW; clear hW; go_simp⟩) hHeld ?_
  simp only [put_laws]
  refine take_z 10 8 (nv (y.c.wr x)) rfl rfl (by kernel_rfl) (by kernel_rfl) (by kernel_rfl) (by kernel_rfl) (fun _ _ _ h => h) (Or.inl ⟨by rfl, by intro W hW; clear hW; go_simp⟩) hHeld ?_
  simp only [put_laws]
  refine take_z 11 9 (.bool false) rfl rfl (by kernel_rfl) (by kernel_rfl) (by kernel_rfl) (by kernel_rfl) (fun _ _ _ h => h) (Or.inl ⟨by rfl, by intro W hW; clear hW; go_simp⟩) hHeld ?_
  simp only [put_laws]
  refine anyZ_done (by kernel_rfl) ?_ _
  refine NoPanic.normal ?_
  have HH2 := Lib.hid hHeld
  clear hHeld
  go_wp2
  generalize W2.drew = W3 at HH2 ⊢
  refine wp_region_noPanic ?_
  refine region_z 8 (fun W => NSt w ⟨1, id, x, vk, vn⟩ g o k y W) 7 1000 rfl (by kernel_rfl) (by exact HH2.out.drew) (fun hHeld => ?_)
  refine take_z 0 40 (.pointer (some ⟨g, o, none⟩)) rfl rfl (by kernel_rfl) (by kernel_rfl) (by kernel_rfl) (by kernel_rfl) (fun _ _ _ h => h) (Or.inl ⟨by rfl, by intro W hW; clear hW; go_simp⟩) hHeld ?_
  simp only [put_laws]
  refine take_z 1 41 (.pointer (some ⟨g, o, none⟩)) rfl rfl (by kernel_rfl) (by kernel_rfl) (by kernel_rfl) (by kernel_rfl) (fun _ _ _ h => h) (Or.inl ⟨by rfl, by intro W hW; clear hW; go_simp⟩) hHeld ?_
  simp only [put_laws]
  refine take_z 2 42 (.pointer (some ⟨g, o + 2, none⟩)) rfl rfl (by kernel_rfl) (by kernel_rfl) (by kernel_rfl) (by kernel_rfl) (fun _ _ _ h => h) (Or.inl ⟨by rfl, by intro W hW; clear hW; go_simp⟩) hHeld ?_
  simp only [put_laws]
  refine take_z 3 43 (.map (some y.rb)) rfl rfl (by kernel_rfl) (by kernel_rfl) (by kernel_rfl) (by kernel_rfl) (fun _ _ _ h => h) (Or.inl ⟨by rfl, by intro W hW; have c := hW.c2; clear hW; go_simp⟩) hHeld ?_
  simp only [put_laws]
  refine take_z 4 44 (.pointer (some ⟨w.heap.size, 2, none⟩)) rfl rfl (by kernel_rfl) (by kernel_rfl) (by kernel_rfl) (by kernel_rfl) (fun _ _ _ h => h) (Or.inl ⟨by rfl, by intro W hW; clear hW; go_simp⟩) hHeld ?_
  simp only [put_laws]
  refine take_z 5 45 (.int .i64 x) rfl rfl (by kernel_rfl) (by kernel_rfl) (by kernel_rfl) (by kernel_rfl) (fun _ _ _ h => h) (Or.inl ⟨by rfl, by intro W hW; have c := hW.e2; clear hW; go_simp⟩) hHeld ?_
  simp only [put_laws]
  refine take_z 6 46 (.int .i64 (n : Nat)) rfl rfl (by kernel_rfl) (by kernel_rfl) (by kernel_rfl) (by kernel_rfl) (fun _ _ _ h => h) (Or.inl ⟨by rfl, by intro W hW; clear hW; go_simp⟩) hHeld ?_
  simp only [put_laws]
  refine anyZ_ready (rs := [7]) (by kernel_rfl) (by simp) ?_
  refine AllZ.last rfl rfl (fun K hK => ?_)
  obtain ⟨sz, hm⟩ := hHeld.rd
  refine step_putM rfl (.tmp 43) (.tmp 45) (.tmp 46) rfl y.rb k sz y.c.rd rfl hm (by have := HK.out; omega) x n rfl rfl HX.out (by omega) ?_
  intro w2 hm2 hg2
  have HE := Lib.hid (hHeld.put hg2)
  have HM := Lib.hid hm2
  refine hK.out _ _ ?_
  clear hK K hHeld hm hm2 hg2
  refine anyZ_done (by kernel_rfl) ?_ _
  refine NoPanic.normal ?_
  go_wp2
  go_end0
  exact ⟨rfl, HE.out, _, HM.out⟩
set_option maxRecDepth 100000 in
set_option maxHeartbeats 4000000 in
theorem note_w (g o n k : Nat) (y : Co) (id x vk vn : Int) (w : World) (h : NAt w k g o y) (hn : n ≤ 2000) (hx : i64p x) (hk : k ≤ 2000) :
    Calls Try.prog 52 #[.pointer (some ⟨g, o, none⟩), .int .i64 (n : Nat), .agg (evA ⟨2, id, x, vk, vn⟩)] w fun r w' => r = .returned (.tuple #[]) ∧ w.grownBy w' (some y.wb) ∧ ∃ sz, NM w' y.wb (k + 1) sz (upd y.c.wr x n) := by
  have HN := Lib.hid (NSt.new (e := ⟨2, id, x, vk, vn⟩) h)
  have HX := Lib.hid hx
  unfold evA at HN ⊢
  dsimp only at HN ⊢
  have HK := Lib.hid hk
  clear h hx hk
  go_enter Try.func52, Try.ntmps52
  go_wp2
  generalize w.alloc (.cells #[.int .i64 2, .int .i64 id, .int .i64 x, .int .i64 vk, .int .i64 vn] 64) = W1 at HN ⊢
  refine wp_region_noPanic ?_
  refine region_z 8 (fun W => NSt w ⟨2, id, x, vk, vn⟩ g o k y W) 7 1000 rfl (by kernel_rfl) (by exact HN.out.drew) (fun hHeld => ?_)
  refine take_z 0 49 (.pointer (some ⟨g, o, none⟩)) rfl rfl (by kernel_rfl) (by kernel_rfl) (by kernel_rfl) (by kernel_rfl) (fun _ _ _ h => h) (Or.inl ⟨by rfl, by intro W hW; clear hW; go_simp⟩) hHeld ?_
  simp only [put_laws]
  refine take_z 1 50 (.pointer (some ⟨g, o, none⟩)) rfl rfl (by kernel_rfl) (by kernel_rfl) (by kernel_rfl) (by kernel_rfl) (fun _ _ _ h => h) (Or.inl ⟨by rfl, by intro W hW; clear hW; go_simp⟩) hHeld ?_
  simp only [put_laws]
  refine take_z 2 51 (.pointer (some ⟨g, o + 3, none⟩)) rfl rfl (by kernel_rfl) (by kernel_rfl) (by kernel_rfl) (by kernel_rfl) (fun _ _ _ h => h) (Or.inl ⟨by rfl, by intro W hW; clear hW; go_simp⟩) hHeld ?_
  simp only [put_laws]
  refine take_z 3 52 (.map (some y.wb)) rfl rfl (by kernel_rfl) (by kernel_rfl) (by kernel_rfl) (by kernel_rfl) (fun _ _ _ h => h) (Or.inl ⟨by rfl, by intro W hW; have c := hW.c3; clear hW; go_simp⟩) hHeld ?_
  simp only [put_laws]
  refine take_z 4 53 (.pointer (some ⟨w.heap.size, 2, none⟩)) rfl rfl (by kernel_rfl) (by kernel_rfl) (by kernel_rfl) (by kernel_rfl) (fun _ _ _ h => h) (Or.inl ⟨by rfl, by intro W hW; clear hW; go_simp⟩) hHeld ?_
  simp only [put_laws]
  refine take_z 5 54 (.int .i64 x) rfl rfl (by kernel_rfl) (by kernel_rfl) (by kernel_rfl) (by kernel_rfl) (fun _ _ _ h => h) (Or.inl ⟨by rfl, by intro W hW; have c := hW.e2; clear hW; go_simp⟩) hHeld ?_
  simp only [put_laws]
  refine take_z 6 55 (.int .i64 (n : Nat)) rfl rfl (by kernel_rfl) (by kernel_rfl) (by kernel_rfl) (by kernel_rfl) (fun _ _ _ h => h) (Or.inl ⟨by rfl, by intro W hW; clear hW; go_simp⟩) hHeld ?_
  simp only [put_laws]
  refine anyZ_ready (rs := [7]) (by kernel_rfl) (by simp) ?_
  refine AllZ.last rfl rfl (fun K hK => ?_)
  obtain ⟨sz, hm⟩ := hHeld.wr
  refine step_putM rfl (.tmp 52) (.tmp 54) (.tmp 55) rfl y.wb k sz y.c.wr rfl hm (by have := HK.out; omega) x n rfl rfl HX.out (by omega) ?_
  intro w2 hm2 hg2
  have HE := Lib.hid (hHeld.put hg2)
  have HM := Lib.hid hm2
  refine hK.out _ _ ?_
  clear hK K hHeld hm hm2 hg2
  refine anyZ_done (by kernel_rfl) ?_ _
  refine NoPanic.normal ?_
  go_wp2
  go_end0
  exact ⟨rfl, HE.out, _, HM.out⟩
set_option maxRecDepth 100000 in
set_option maxHeartbeats 4000000 in
theorem note_e3 (g o n k : Nat) (y : Co) (id x vk vn : Int) (w : World) (h : NAt w k g o y) (hn : n ≤ 2000) (hb : y.c.b ≤ n) (hG : Gc y.c) :
    Calls Try.prog 52 #[.pointer (some ⟨g, o, none⟩), .int .i64 (n : Nat), .agg (evA ⟨3, id, x, vk, vn⟩)] w fun r w' => r = .returned (.tuple #[]) ∧ ∃ W1, Below w.heap.size w W1 ∧ w' = (W1.setCell ⟨g, o, none⟩ (.complex .f64 (cr ⟨y.c.b, n, true, y.c.rd, y.c.wr⟩) (ci ⟨y.c.b, n, true, y.c.rd, y.c.wr⟩))).setCell ⟨g, o + 1, none⟩ (.bool true) := by
  have HN := Lib.hid (NSt.new (e := ⟨3, id, x, vk, vn⟩) h)
  have HG := Lib.hid hG
  have HO := Lib.hid (fun W => of_end y.c.b n hb hn true y.c.rd y.c.wr W)
  have c0 := HN.out.c0
  have e0 := HN.out.e0
  have f0 := HN.out.f0
  have f1 := HN.out.f1
  have c1 := HN.out.c1
  have hg : g ≠ w.heap.size := by have := h.lt; omega
  clear h hn hb hG
  unfold evA at HN c0 c1 e0 f0 f1 ⊢
  dsimp only at HN c0 c1 e0 f0 f1 ⊢
  have hstc : ∀ (W : World) (ad : Addr) (p q : Nat) (m : Mode), (store ad (.complex .f64 p q) m).run Try.prog W = stored Try.prog W ad (.complex .f64 p q) m := fun W ad p q m => run_store Try.prog W ad _ m rfl
  go_enter Try.func52, Try.ntmps52
  go_wp2_with fail
  refine (begin_c HG.out _).mono ?_
  rintro e w1 ⟨rfl, rfl⟩
  go_wp2_with fail
  refine (HO.out _).mono ?_
  rintro e w1 ⟨rfl, rfl⟩
  go_wp2
  go_end0
  exact ⟨rfl, _, HN.out.bel, rfl⟩
set_option maxRecDepth 100000 in
set_option maxHeartbeats 4000000 in
theorem note_e4 (g o n k : Nat) (y : Co) (id x vk vn : Int) (w : World) (h : NAt w k g o y) (hn : n ≤ 2000) (hb : y.c.b ≤ n) (hG : Gc y.c) :
    Calls Try.prog 52 #[.pointer (some ⟨g, o, none⟩), .int .i64 (n : Nat), .agg (evA ⟨4, id, x, vk, vn⟩)] w fun r w' => r = .returned (.tuple #[]) ∧ ∃ W1, Below w.heap.size w W1 ∧ w' = (W1.setCell ⟨g, o, none⟩ (.complex .f64 (cr ⟨y.c.b, n, false, y.c.rd, y.c.wr⟩) (ci ⟨y.c.b, n, false, y.c.rd, y.c.wr⟩))).setCell ⟨g, o + 1, none⟩ (.bool false) := by
  have HN := Lib.hid (NSt.new (e := ⟨4, id, x, vk, vn⟩) h)
  have HG := Lib.hid hG
  have HO := Lib.hid (fun W => of_end y.c.b n hb hn false y.c.rd y.c.wr W)
  have c0 := HN.out.c0
  have e0 := HN.out.e0
  have f0 := HN.out.f0
  have f1 := HN.out.f1
  have c1 := HN.out.c1
  have hg : g ≠ w.heap.size := by have := h.lt; omega
  clear h hn hb hG
  unfold evA at HN c0 c1 e0 f0 f1 ⊢
  dsimp only at HN c0 c1 e0 f0 f1 ⊢
  have hstc : ∀ (W : World) (ad : Addr) (p q : Nat) (m : Mode), (store ad (.complex .f64 p q) m).run Try.prog W = stored Try.prog W ad (.complex .f64 p q) m := fun W ad p q m => run_store Try.prog W ad _ m rfl
  go_enter Try.func52, Try.ntmps52
  go_wp2_with fail
  refine (begin_c HG.out _).mono ?_
  rintro e w1 ⟨rfl, rfl⟩
  go_wp2_with fail
  refine (HO.out _).mono ?_
  rintro e w1 ⟨rfl, rfl⟩
  go_wp2
  go_end0
  exact ⟨rfl, _, HN.out.bel, rfl⟩
end Go.Proofs.Ytcfdndppkpjleaa.Hi
