/-
  Contracts of begun and note.
  Rows of courses of the call's own, each with its two maps; what note makes of one.
-/
import Derived.Test.YtaonepbongbhoaaKD
import Derived.Test.YtaonepbongbhoaaKC
import Derived.Test.YtaonepbongbhoaaKE
namespace Go.Proofs.Ytaonepbongbhoaa.Hi
open Go.RowKit
open Tx (i64p right)
open Az
theorem of_begun (n : Nat) (hn : n ≤ 2000) (w : World) : Calls Try.prog 62 #[.int .i64 (n : Nat), .int .i64 9007199254740992] w fun e w' => e = .returned (.tuple #[.complex .f64 (cr (begun n)) (ci (begun n)), .bool true]) ∧ w = w' := by
  have h : Fl.mk (n : Nat) 9007199254740992 = some (n, 9007199254740992) := by
    have := Fl.mk_nat (b := n) (e := 9007199254740992) (by omega) (by unfold Fl.never; omega)
    exact this
  exact Cx.of_at _ _ _ w h
theorem of_end (b n : Nat) (hb : b ≤ n) (hn : n ≤ 2000) (c : Bool) (f t : Int → Option Nat) (w : World) : Calls Try.prog 62 #[.int .i64 (b : Nat), .int .i64 (n : Nat)] w fun e w' => e = .returned (.tuple #[.complex .f64 (cr ⟨b, n, c, f, t⟩) (ci ⟨b, n, c, f, t⟩), .bool true]) ∧ w = w' :=
  Cx.of_at _ _ _ w (Fl.mk_nat hb (by unfold Fl.never; omega))
theorem NM.row {W : World} {b n sz g : Nat} {f : Int → Option Nat} {cs : Array Value} (h : NM W b n sz f) (hg : b ≠ g) : NM (W.setRow g cs) b n sz f := by
  obtain ⟨D, ⟨es, clock, hh, F, hs, hD⟩, hm⟩ := h
  exact ⟨D, ⟨es, clock, (setRow_other _ _ _ _ hg).trans hh, F, hs, hD⟩, hm⟩
theorem NM.cell {W : World} {b n sz g i : Nat} {f : Int → Option Nat} {v : Value} (h : NM W b n sz f) (hg : b ≠ g) : NM (W.setCell ⟨g, i, none⟩ v) b n sz f := by
  obtain ⟨D, ⟨es, clock, hh, F, hs, hD⟩, hm⟩ := h
  exact ⟨D, ⟨es, clock, (Below.heap_setCell _ _ _ _ hg).trans hh, F, hs, hD⟩, hm⟩
def zeroC : Array Value := #[.complex .f64 0 0, .bool false, .map none, .map none]
theorem cour_size (x : Co) : (Try.prog.info? 71).map (·.size) = some (coA x).size := by
  show _ = some 4
  kernel_rfl
theorem coA_one (x : Co) : (coA x).all (·.oneCell') = true := by
  unfold coA
  rw [Array.all_eq_true']
  intro u hu
  simp at hu
  rcases hu with rfl | rfl | rfl | rfl <;> rfl
set_option maxRecDepth 100000 in
set_option maxHeartbeats 2000000 in
theorem begun_any (n : Nat) (hn : n ≤ 2000) (w : World) : Calls Try.prog 45 #[.int .i64 (n : Nat)] w fun r w' => ∃ x : Co, r = .returned (.agg (coA x)) ∧ x.c = begun n ∧ NM w' x.rb 0 0 (fun _ => none) ∧ NM w' x.wb 0 0 (fun _ => none) ∧ w.heap.size ≤ x.rb ∧ x.rb < x.wb ∧ Below w.heap.size w w' := by
  have HO := Lib.hid (fun W => of_begun n hn W)
  have HH := Lib.hid (show (((w.alloc (.cells zeroC 71)).alloc (.map #[] 0)).alloc (.map #[] 0)).heap[w.heap.size]? = some (.cells zeroC 71 (0, 0)) from by
    rw [Below.heap_alloc _ _ _ (by simp; omega), Below.heap_alloc _ _ _ (by simp)]; exact heap_alloc_new _ _)
  have HM := Lib.hid (show NM (((w.alloc (.cells zeroC 71)).alloc (.map #[] 0)).alloc (.map #[] 0)) (w.heap.size + 1) 0 0 (fun _ => none) from (nm_made' (by simp)).alloc _)
  have HM2 := Lib.hid (show NM (((w.alloc (.cells zeroC 71)).alloc (.map #[] 0)).alloc (.map #[] 0)) (w.heap.size + 2) 0 0 (fun _ => none) from nm_made' (by simp))
  have HW := Lib.hid (show Below w.heap.size w (((w.alloc (.cells zeroC 71)).alloc (.map #[] 0)).alloc (.map #[] 0)) from ((Rn.below_new w _).alloc (by simp) _).alloc (by simp; omega) _)
  have hmm := @run_makeMap Try.prog
  unfold zeroC at HH HM HM2 HW
  go_enter Try.func45, Try.ntmps45
  go_wp2_with fail
  refine (HO.out _).mono ?_
  rintro e w1 ⟨rfl, rfl⟩
  go_wp2_with (refine wpList_store_row rfl 71 (.tmp 2) (.tmp 13) rfl w.heap.size (coA ⟨w.heap.size + 1, w.heap.size + 2, begun n⟩) rfl rfl 71 _ HH.out (cour_size _) rfl (coA_one _) ?_)
  refine bodyPost_ret (results_cell_row rfl _ _ w.heap.size 71 _ (0, 0) _ rfl (setRow_heap _ _ _ _ _ _ HH.out) Try.underlying71 rfl (cour_size _)) rfl ⟨_, rfl, rfl, ?_, ?_, ?_, ?_, ?_⟩
  · exact HM.out.row (by omega)
  · exact HM2.out.row (by omega)
  · show w.heap.size ≤ w.heap.size + 1; omega
  · show w.heap.size + 1 < w.heap.size + 2; omega
  · exact setRow_below HW.out (Nat.le_refl _)
/-- a course in memory, where note is to write. -/
structure NAt (w : World) (k g o : Nat) (y : Co) : Prop where
  c0 : w.cell? ⟨g, o, none⟩ = some (.complex .f64 (cr y.c) (ci y.c))
  c1 : w.cell? ⟨g, o + 1, none⟩ = some (.bool y.c.com)
  c2 : w.cell? ⟨g, o + 2, none⟩ = some (.map (some y.rb))
  c3 : w.cell? ⟨g, o + 3, none⟩ = some (.map (some y.wb))
  f0 : w.frozen? ⟨g, o, none⟩ = false
  f1 : w.frozen? ⟨g, o + 1, none⟩ = false
  rd : ∃ sz, NM w y.rb k sz y.c.rd
  wr : ∃ sz, NM w y.wb k sz y.c.wr
theorem NAt.lt {w : World} {k g o : Nat} {y : Co} (h : NAt w k g o y) : g < w.heap.size := Rn.cell_lt h.c0
/-- the box of the event, the course, and all that lay there. -/
structure NSt (w : World) (e : Ev) (g o k : Nat) (y : Co) (W : World) : Prop where
  e0 : W.cell? ⟨w.heap.size, 0, none⟩ = some (.int .i64 e.kd)
  e2 : W.cell? ⟨w.heap.size, 2, none⟩ = some (.int .i64 e.x)
  c0 : W.cell? ⟨g, o, none⟩ = some (.complex .f64 (cr y.c) (ci y.c))
  c1 : W.cell? ⟨g, o + 1, none⟩ = some (.bool y.c.com)
  c2 : W.cell? ⟨g, o + 2, none⟩ = some (.map (some y.rb))
  c3 : W.cell? ⟨g, o + 3, none⟩ = some (.map (some y.wb))
  f0 : W.frozen? ⟨g, o, none⟩ = false
  f1 : W.frozen? ⟨g, o + 1, none⟩ = false
  rd : ∃ sz, NM W y.rb k sz y.c.rd
  wr : ∃ sz, NM W y.wb k sz y.c.wr
  bel : Below w.heap.size w W
theorem NSt.new {w : World} {e : Ev} {k g o : Nat} {y : Co} (h : NAt w k g o y) : NSt w e g o k y (w.alloc (.cells (evA e) 53)) := by
  have hE := EB.new w e
  have hb := hE.bel
  have hlt := h.lt
  have hf : ∀ i, (w.alloc (.cells (evA e) 53)).frozen? ⟨g, i, none⟩ = w.frozen? ⟨g, i, none⟩ := fun i => by simp only [World.frozen?, hb.block g hlt]
  obtain ⟨s1, h1⟩ := h.rd
  obtain ⟨s2, h2⟩ := h.wr
  exact ⟨hE.c0, hE.c2, (hb.cell (Rn.cell_lt h.c0)).trans h.c0, (hb.cell (Rn.cell_lt h.c1)).trans h.c1, (hb.cell (Rn.cell_lt h.c2)).trans h.c2, (hb.cell (Rn.cell_lt h.c3)).trans h.c3, (hf _).trans h.f0, (hf _).trans h.f1, ⟨s1, h1.alloc _⟩, ⟨s2, h2.alloc _⟩, hb⟩
theorem NSt.drew {w : World} {e : Ev} {g o k : Nat} {y : Co} {W : World} (h : NSt w e g o k y W) : NSt w e g o k y W.drew :=
  ⟨h.e0, h.e2, h.c0, h.c1, h.c2, h.c3, h.f0, h.f1, h.rd, h.wr, h.bel.drew⟩
theorem NSt.put {w : World} {e : Ev} {g o k : Nat} {y : Co} {W w' : World} {b : Nat} (h : NSt w e g o k y W) (hg : W.grownBy w' (some b)) : w.grownBy w' (some b) :=
  (show w.grownBy W (some b) from ⟨h.bel.os, h.bel.tape, h.bel.output, h.bel.size, fun i hi _ => h.bel.block i hi⟩).andThen hg (fun _ hj => .inr hj)
set_option maxRecDepth 100000 in
set_option maxHeartbeats 4000000 in
theorem note_r1 (g o n k : Nat) (y : Co) (id x vk vn : Int) (w : World) (h : NAt w k g o y) (hx : i64p x) (hrd : (y.c.rd x).isSome = true) :
    Calls Try.prog 46 #[.pointer (some ⟨g, o, none⟩), .int .i64 (n : Nat), .agg (evA ⟨1, id, x, vk, vn⟩)] w fun r w' => r = .returned (.tuple #[]) ∧ Below w.heap.size w w' := by
  have HN := Lib.hid (NSt.new (e := ⟨1, id, x, vk, vn⟩) h)
  have HX := Lib.hid hx
  unfold evA at HN ⊢
  dsimp only at HN ⊢
  generalize hwr : (y.c.wr x).isSome = b
  have HLrb := Lib.hid (show ∀ W, NSt w ⟨1, id, x, vk, vn⟩ g o k y W → (Instr.lookup 69 (.map (some y.rb)) (.int .i64 x) true).run Try.prog W = .ok (.tuple #[nv (y.c.rd x), .bool true]) W from fun W hW => by
    obtain ⟨sz, hm⟩ := hW.rd
    rw [hm.look HX.out, hrd])
  have HLwb := Lib.hid (show ∀ W, NSt w ⟨1, id, x, vk, vn⟩ g o k y W → (Instr.lookup 69 (.map (some y.wb)) (.int .i64 x) true).run Try.prog W = .ok (.tuple #[nv (y.c.wr x), .bool b]) W from fun W hW => by
    obtain ⟨sz, hm⟩ := hW.wr
    rw [hm.look HX.out, hwr])
  clear h hrd hwr hx
  go_enter Try.func46, Try.ntmps46
  go_wp2
  generalize w.alloc (.cells #[.int .i64 1, .int .i64 id, .int .i64 x, .int .i64 vk, .int .i64 vn] 53) = W1 at HN ⊢
  refine wp_region_noPanic ?_
  refine region_z 12 (fun W => NSt w ⟨1, id, x, vk, vn⟩ g o k y W) 12 1000 rfl (by kernel_rfl) (by exact HN.out.drew) (fun hHeld => ?_)
  refine take_z 0 15 (.pointer (some ⟨g, o, none⟩)) rfl rfl (by kernel_rfl) (by kernel_rfl) (by kernel_rfl) (by kernel_rfl) (fun _ _ _ h => h) (Or.inl ⟨by rfl, by intro W hW; clear hW; go_simp⟩) hHeld ?_
  simp only [put_laws]
  refine take_z 1 16 (.pointer (some ⟨g, o, none⟩)) rfl rfl (by kernel_rfl) (by kernel_rfl) (by kernel_rfl) (by kernel_rfl) (fun _ _ _ h => h) (Or.inl ⟨by rfl, by intro W hW; clear hW; go_simp⟩) hHeld ?_
  simp only [put_laws]
  refine take_z 2 17 (.pointer (some ⟨g, o + 2, none⟩)) rfl rfl (by kernel_rfl) (by kernel_rfl) (by kernel_rfl) (by kernel_rfl) (fun _ _ _ h => h) (Or.inl ⟨by rfl, by intro W hW; clear hW; go_simp⟩) hHeld ?_
  simp only [put_laws]
  refine take_z 3 18 (.map (some y.rb)) rfl rfl (by kernel_rfl) (by kernel_rfl) (by kernel_rfl) (by kernel_rfl) (fun _ _ _ h => h) (Or.inl ⟨by rfl, by intro W hW; have c := hW.c2; clear hW; go_simp⟩) hHeld ?_
  simp only [put_laws]
  refine take_z 4 19 (.pointer (some ⟨w.heap.size, 2, none⟩)) rfl rfl (by kernel_rfl) (by kernel_rfl) (by kernel_rfl) (by kernel_rfl) (fun _ _ _ h => h) (Or.inl ⟨by rfl, by intro W hW; clear hW; go_simp⟩) hHeld ?_
  simp only [put_laws]
  refine take_z 5 20 (.int .i64 x) rfl rfl (by kernel_rfl) (by kernel_rfl) (by kernel_rfl) (by kernel_rfl) (fun _ _ _ h => h) (Or.inl ⟨by rfl, by intro W hW; have c := hW.e2; clear hW; go_simp⟩) hHeld ?_
  simp only [put_laws]
  refine take_z 6 21 (.tuple #[nv (y.c.rd x), .bool true]) rfl rfl (by kernel_rfl) (by kernel_rfl) (by kernel_rfl) (by kernel_rfl) (fun _ _ _ h => h) (Or.inl ⟨by rfl, by intro W hW; have hl := HLrb.out W hW; clear hW; go_simp⟩) hHeld ?_
  simp only [put_laws]
  refine take_z 7 14 (.tuple #[nv (y.c.rd x), .bool true]) rfl rfl (by kernel_rfl) (by kernel_rfl) (by kernel_rfl) (by kernel_rfl) (fun _ _ _ h => h) (Or.inl ⟨by rfl, by intro W hW; clear hW; go_simp⟩) hHeld ?_
  simp only [put_laws]
  refine take_z 8 22 (nv (y.c.rd x)) rfl rfl (by kernel_rfl) (by kernel_rfl) (by kernel_rfl) (by kernel_rfl) (fun _ _ _ h => h) (Or.inl ⟨by rfl, by intro W hW; clear hW; go_simp⟩) hHeld ?_
  simp only [put_laws]
  refine take_z 9 23 (.bool true) rfl rfl (by kernel_rfl) (by kernel_rfl) (by kernel_rfl) (by kernel_rfl) (fun _ _ _ h => h) (Or.inl ⟨by rfl, by intro W hW; clear hW; go_simp⟩) hHeld ?_
  simp only [put_laws]
  refine take_z 10 6 (nv (y.c.rd x)) rfl rfl (by kernel_rfl) (by kernel_rfl) (by kernel_rfl) (by kernel_rfl) (fun _ _ _ h => h) (Or.inl ⟨by rfl, by intro W hW; clear hW; go_simp⟩) hHeld ?_
  simp only [put_laws]
  refine take_z 11 7 (.bool true) rfl rfl (by kernel_rfl) (by kernel_rfl) (by kernel_rfl) (by kernel_rfl) (fun _ _ _ h => h) (Or.inl ⟨by rfl, by intro W hW; clear hW; go_simp⟩) hHeld ?_
  simp only [put_laws]
  refine anyZ_done (by kernel_rfl) ?_ _
  refine NoPanic.normal ?_
  have HH := Lib.hid hHeld
  clear hHeld
  go_wp2
  generalize W1.drew = W2 at HH ⊢
  refine wp_region_noPanic ?_
  refine region_z 12 (fun W => NSt w ⟨1, id, x, vk, vn⟩ g o k y W) 12 1000 rfl (by kernel_rfl) (by exact HH.out.drew) (fun hHeld => ?_)
  refine take_z 0 25 (.pointer (some ⟨g, o, none⟩)) rfl rfl (by kernel_rfl) (by kernel_rfl) (by kernel_rfl) (by kernel_rfl) (fun _ _ _ h => h) (Or.inl ⟨by rfl, by intro W hW; clear hW; go_simp⟩) hHeld ?_
  simp only [put_laws]
  refine take_z 1 26 (.pointer (some ⟨g, o, none⟩)) rfl rfl (by kernel_rfl) (by kernel_rfl) (by kernel_rfl) (by kernel_rfl) (fun _ _ _ h => h) (Or.inl ⟨by rfl, by intro W hW; clear hW; go_simp⟩) hHeld ?_
  simp only [put_laws]
  refine take_z 2 27 (.pointer (some ⟨g, o + 3, none⟩)) rfl rfl (by kernel_rfl) (by kernel_rfl) (by kernel_rfl) (by kernel_rfl) (fun _ _ _ h => h) (Or.inl ⟨by rfl, by intro W hW; clear hW; go_simp⟩) hHeld ?_
  simp only [put_laws]
  refine take_z 3 28 (.map (some y.wb)) rfl rfl (by kernel_rfl) (by kernel_rfl) (by kernel_rfl) (by kernel_rfl) (fun _ _ _ h => h) (Or.inl ⟨by rfl, by intro W hW; have c := hW.c3; clear hW; go_simp⟩) hHeld ?_
  simp only [put_laws]
  refine take_z 4 29 (.pointer (some ⟨w.heap.size, 2, none⟩)) rfl rfl (by kernel_rfl) (by kernel_rfl) (by kernel_rfl) (by kernel_rfl) (fun _ _ _ h => h) (Or.inl ⟨by rfl, by intro W hW; clear hW; go_simp⟩) hHeld ?_
  simp only [put_laws]
  refine take_z 5 30 (.int .i64 x) rfl rfl (by kernel_rfl) (by kernel_rfl) (by kernel_rfl) (by kernel_rfl) (fun _ _ _ h => h) (Or.inl ⟨by rfl, by intro W hW; have c := hW.e2; clear hW; go_simp⟩) hHeld ?_
  simp only [put_laws]
  refine take_z 6 31 (.tuple #[nv (y.c.wr x), .bool b]) rfl rfl (by kernel_rfl) (by kernel_rfl) (by kernel_rfl) (by kernel_rfl) (fun _ _ _ h => h) (Or.inl ⟨by rfl, by intro W hW; have hl := HLwb.out W hW; clear hW; go_simp⟩) hHeld ?_
  simp only [put_laws]
  refine take_z 7 24 (.tuple #[nv (y.c.wr x), .bool b]) rfl rfl (by kernel_rfl) (by kernel_rfl) (by kernel_rfl) (by kernel_rfl) (fun _ _ _ h => h) (Or.inl ⟨by rfl, by intro W hW; clear hW; go_simp⟩) hHeld ?_
  simp only [put_laws]
  refine take_z 8 32 (nv (y.c.wr x)) rfl rfl (by kernel_rfl) (by kernel_rfl) (by kernel_rfl) (by kernel_rfl) (fun _ _ _ h => h) (Or.inl ⟨by rfl, by intro W hW; clear hW; go_simp⟩) hHeld ?_
  simp only [put_laws]
  refine take_z 9 33 (.bool b) rfl rfl (by kernel_rfl) (by kernel_rfl) (by kernel_rfl) (by kernel_rfl) (fun _ _ _ h => h) (Or.inl ⟨by rfl, by intro W hW; clear hW; go_simp⟩) hHeld ?_
  simp only [put_laws]
  refine take_z 10 8 (nv (y.c.wr x)) rfl rfl (by kernel_rfl) (by kernel_rfl) (by kernel_rfl) (by kernel_rfl) (fun _ _ _ h => h) (Or.inl ⟨by rfl, by intro W hW; clear hW; go_simp⟩) hHeld ?_
  simp only [put_laws]
  refine take_z 11 9 (.bool b) rfl rfl (by kernel_rfl) (by kernel_rfl) (by kernel_rfl) (by kernel_rfl) (fun _ _ _ h => h) (Or.inl ⟨by rfl, by intro W hW; clear hW; go_simp⟩) hHeld ?_
  simp only [put_laws]
  refine anyZ_done (by kernel_rfl) ?_ _
  refine NoPanic.normal ?_
  have HH2 := Lib.hid hHeld
  clear hHeld
  go_wp2
  go_end0
  exact ⟨rfl, HH2.out.bel⟩
set_option maxRecDepth 100000 in
set_option maxHeartbeats 4000000 in
theorem note_r2 (g o n k : Nat) (y : Co) (id x vk vn : Int) (w : World) (h : NAt w k g o y) (hx : i64p x) (hrd : (y.c.rd x).isSome = false) (hwr : (y.c.wr x).isSome = true) :
    Calls Try.prog 46 #[.pointer (some ⟨g, o, none⟩), .int .i64 (n : Nat), .agg (evA ⟨1, id, x, vk, vn⟩)] w fun r w' => r = .returned (.tuple #[]) ∧ Below w.heap.size w w' := by
  have HN := Lib.hid (NSt.new (e := ⟨1, id, x, vk, vn⟩) h)
  have HX := Lib.hid hx
  unfold evA at HN ⊢
  dsimp only at HN ⊢
  have HLrb := Lib.hid (show ∀ W, NSt w ⟨1, id, x, vk, vn⟩ g o k y W → (Instr.lookup 69 (.map (some y.rb)) (.int .i64 x) true).run Try.prog W = .ok (.tuple #[nv (y.c.rd x), .bool false]) W from fun W hW => by
    obtain ⟨sz, hm⟩ := hW.rd
    rw [hm.look HX.out, hrd])
  have HLwb := Lib.hid (show ∀ W, NSt w ⟨1, id, x, vk, vn⟩ g o k y W → (Instr.lookup 69 (.map (some y.wb)) (.int .i64 x) true).run Try.prog W = .ok (.tuple #[nv (y.c.wr x), .bool true]) W from fun W hW => by
    obtain ⟨sz, hm⟩ := hW.wr
    rw [hm.look HX.out, hwr])
  clear h hrd hwr hx
  go_enter Try.func46, Try.ntmps46
  go_wp2
  generalize w.alloc (.cells #[.int .i64 1, .int .i64 id, .int .i64 x, .int .i64 vk, .int .i64 vn] 53) = W1 at HN ⊢
  refine wp_region_noPanic ?_
  refine region_z 12 (fun W => NSt w ⟨1, id, x, vk, vn⟩ g o k y W) 12 1000 rfl (by kernel_rfl) (by exact HN.out.drew) (fun hHeld => ?_)
  refine take_z 0 15 (.pointer (some ⟨g, o, none⟩)) rfl rfl (by kernel_rfl) (by kernel_rfl) (by kernel_rfl) (by kernel_rfl) (fun _ _ _ h => h) (Or.inl ⟨by rfl, by intro W hW; clear hW; go_simp⟩) hHeld ?_
  simp only [put_laws]
  refine take_z 1 16 (.pointer (some ⟨g, o, none⟩)) rfl rfl (by kernel_rfl) (by kernel_rfl) (by kernel_rfl) (by kernel_rfl) (fun _ _ _ h => h) (Or.inl ⟨by rfl, by intro W hW; clear hW; go_simp⟩) hHeld ?_
  simp only [put_laws]
  refine take_z 2 17 (.pointer (some ⟨g, o + 2, none⟩)) rfl rfl (by kernel_rfl) (by kernel_rfl) (by kernel_rfl) (by kernel_rfl) (fun _ _ _ h => h) (Or.inl ⟨by rfl, by intro W hW; clear hW; go_simp⟩) hHeld ?_
  simp only [put_laws]
  refine take_z 3 18 (.map (some y.rb)) rfl rfl (by kernel_rfl) (by kernel_rfl) (by kernel_rfl) (by kernel_rfl) (fun _ _ _ h => h) (Or.inl ⟨by rfl, by intro W hW; have c := hW.c2; clear hW; go_simp⟩) hHeld ?_
  simp only [put_laws]
  refine take_z 4 19 (.pointer (some ⟨w.heap.size, 2, none⟩)) rfl rfl (by kernel_rfl) (by kernel_rfl) (by kernel_rfl) (by kernel_rfl) (fun _ _ _ h => h) (Or.inl ⟨by rfl, by intro W hW; clear hW; go_simp⟩) hHeld ?_
  simp only [put_laws]
  refine take_z 5 20 (.int .i64 x) rfl rfl (by kernel_rfl) (by kernel_rfl) (by kernel_rfl) (by kernel_rfl) (fun _ _ _ h => h) (Or.inl ⟨by rfl, by intro W hW; have c := hW.e2; clear hW; go_simp⟩) hHeld ?_
  simp only [put_laws]
  refine take_z 6 21 (.tuple #[nv (y.c.rd x), .bool false]) rfl rfl (by kernel_rfl) (by kernel_rfl) (by kernel_rfl) (by kernel_rfl) (fun _ _ _ h => h) (Or.inl ⟨by rfl, by intro W hW; have hl := HLrb.out W hW; clear hW; go_simp⟩) hHeld ?_
  simp only [put_laws]
  refine take_z 7 14 (.tuple #[nv (y.c.rd x), .bool false]) rfl rfl (by kernel_rfl) (by kernel_rfl) (by kernel_rfl) (by kernel_rfl) (fun _ _ _ h => h) (Or.inl ⟨by rfl, by intro W hW; clear hW; go_simp⟩) hHeld ?_
  simp only [put_laws]
  refine take_z 8 22 (nv (y.c.rd x)) rfl rfl (by kernel_rfl) (by kernel_rfl) (by kernel_rfl) (by kernel_rfl) (fun _ _ _ h => h) (Or.inl ⟨by rfl, by intro W hW; clear hW; go_simp⟩) hHeld ?_
  simp only [put_laws]
  refine take_z 9 23 (.bool false) rfl rfl (by kernel_rfl) (by kernel_rfl) (by kernel_rfl) (by kernel_rfl) (fun _ _ _ h => h) (Or.inl ⟨by rfl, by intro W hW; clear hW; go_simp⟩) hHeld ?_
  simp only [put_laws]
  refine take_z 10 6 (nv (y.c.rd x)) rfl rfl (by kernel_rfl) (by kernel_rfl) (by kernel_rfl) (by kernel_rfl) (fun _ _ _ h => h) (Or.inl ⟨by rfl, by intro W hW; clear hW; go_simp⟩) hHeld ?_
  simp only [put_laws]
  refine take_z 11 7 (.bool false) rfl rfl (by kernel_rfl) (by kernel_rfl) (by kernel_rfl) (by kernel_rfl) (fun _ _ _ h => h) (Or.inl ⟨by rfl, by intro W hW; clear hW; go_simp⟩) hHeld ?_
  simp only [put_laws]
  refine anyZ_done (by kernel_rfl) ?_ _
  refine NoPanic.normal ?_
  have HH := Lib.hid hHeld
  clear hHeld
  go_wp2
  generalize W1.drew = W2 at HH ⊢
  refine wp_region_noPanic ?_
  refine region_z 12 (fun W => NSt w ⟨1, id, x, vk, vn⟩ g o k y W) 12 1000 rfl (by kernel_rfl) (by exact HH.out.drew) (fun hHeld => ?_)
  refine take_z 0 25 (.pointer (some ⟨g, o, none⟩)) rfl rfl (by kernel_rfl) (by kernel_rfl) (by kernel_rfl) (by kernel_rfl) (fun _ _ _ h => h) (Or.inl ⟨by rfl, by intro W hW; clear hW; go_simp⟩) hHeld ?_
  simp only [put_laws]
  refine take_z 1 26 (.pointer (some ⟨g, o, none⟩)) rfl rfl (by kernel_rfl) (by kernel_rfl) (by kernel_rfl) (by kernel_rfl) (fun _ _ _ h => h) (Or.inl ⟨by rfl, by intro W hW; clear hW; go_simp⟩) hHeld ?_
  simp only [put_laws]
  refine take_z 2 27 (.pointer (some ⟨g, o + 3, none⟩)) rfl rfl (by kernel_rfl) (by kernel_rfl) (by kernel_rfl) (by kernel_rfl) (fun _ _ _ h => h) (Or.inl ⟨by rfl, by intro W hW; clear hW; go_simp⟩) hHeld ?_
  simp only [put_laws]
  refine take_z 3 28 (.map (some y.wb)) rfl rfl (by kernel_rfl) (by kernel_rfl) (by kernel_rfl) (by kernel_rfl) (fun _ _ _ h => h) (Or.inl ⟨by rfl, by intro W hW; have c := hW.c3; clear hW; go_simp⟩) hHeld ?_
  simp only [put_laws]
  refine take_z 4 29 (.pointer (some ⟨w.heap.size, 2, none⟩)) rfl rfl (by kernel_rfl) (by kernel_rfl) (by kernel_rfl) (by kernel_rfl) (fun _ _ _ h => h) (Or.inl ⟨by rfl, by intro W hW; clear hW; go_simp⟩) hHeld ?_
  simp only [put_laws]
  refine take_z 5 30 (.int .i64 x) rfl rfl (by kernel_rfl) (by kernel_rfl) (by kernel_rfl) (by kernel_rfl) (fun _ _ _ h => h) (Or.inl ⟨by rfl, by intro W hW; have c := hW.e2; clear hW; go_simp⟩) hHeld ?_
  simp only [put_laws]
  refine take_z 6 31 (.tuple #[nv (y.c.wr x), .bool true]) rfl rfl (by kernel_rfl) (by kernel_rfl) (by kernel_rfl) (by kernel_rfl) (fun _ _ _ h => h) (Or.inl ⟨by rfl, by intro W hW; have hl := HLwb.out W hW; clear hW; go_simp⟩) hHeld ?_
  simp only [put_laws]
  refine take_z 7 24 (.tuple #[nv (y.c.wr x), .bool true]) rfl rfl (by kernel_rfl) (by kernel_rfl) (by kernel_rfl) (by kernel_rfl) (fun _ _ _ h => h) (Or.inl ⟨by rfl, by intro W hW; clear hW; go_simp⟩) hHeld ?_
  simp only [put_laws]
  refine take_z 8 32 (nv (y.c.wr x)) rfl rfl (by kernel_rfl) (by kernel_rfl) (by kernel_rfl) (by kernel_rfl) (fun _ _ _ h => h) (Or.inl ⟨by rfl, by intro W hW; clear hW; go_simp⟩) hHeld ?_
  simp only [put_laws]
  refine take_z 9 33 (.bool true) rfl rfl (by kernel_rfl) (by kernel_rfl) (by kernel_rfl) (by kernel_rfl) (fun _ _ _ h => h) (Or.inl ⟨by rfl, by intro W hW; clear hW; go_simp⟩) hHeld ?_
  simp only [put_laws]
  refine take_z 10 8 (nv (y.c.wr x)) rfl rfl (by kernel_rfl) (by kernel_rfl) (by kernel_rfl) (by kernel_rfl) (fun _ _ _ h => h) (Or.inl ⟨by rfl, by intro W hW; clear hW; go_simp⟩) hHeld ?_
  simp only [put_laws]
  refine take_z 11 9 (.bool true) rfl rfl (by kernel_rfl) (by kernel_rfl) (by kernel_rfl) (by kernel_rfl) (fun _ _ _ h => h) (Or.inl ⟨by rfl, by intro W hW; clear hW; go_simp⟩) hHeld ?_
  simp only [put_laws]
  refine anyZ_done (by kernel_rfl) ?_ _
  refine NoPanic.normal ?_
  have HH2 := Lib.hid hHeld
  clear hHeld
  go_wp2
  go_end0
  exact ⟨rfl, HH2.out.bel⟩
set_option maxRecDepth 100000 in
set_option maxHeartbeats 4000000 in
theorem note_r3 (g o n k : Nat) (y : Co) (id x vk vn : Int) (w : World) (h : NAt w k g o y) (hn : n ≤ 2000) (hx : i64p x) (hrd : (y.c.rd x).isSome = false) (hwr : (y.c.wr x).isSome = false) (hk : k ≤ 2000) :
    Calls Try.prog 46 #[.pointer (some ⟨g, o, none⟩), .int .i64 (n : Nat), .agg (evA ⟨1, id, x, vk, vn⟩)] w fun r w' => r = .returned (.tuple #[]) ∧ w.grownBy w' (some y.rb) ∧ ∃ sz, NM w' y.rb (k + 1) sz (upd y.c.rd x n) := by
  have HN := Lib.hid (NSt.new (e := ⟨1, id, x, vk, vn⟩) h)
  have HX := Lib.hid hx
  unfold evA at HN ⊢
  dsimp only at HN ⊢
  have HLrb := Lib.hid (show ∀ W, NSt w ⟨1, id, x, vk, vn⟩ g o k y W → (Instr.lookup 69 (.map (some y.rb)) (.int .i64 x) true).run Try.prog W = .ok (.tuple #[nv (y.c.rd x), .bool false]) W from fun W hW => by
    obtain ⟨sz, hm⟩ := hW.rd
    rw [hm.look HX.out, hrd])
  have HLwb := Lib.hid (show ∀ W, NSt w ⟨1, id, x, vk, vn⟩ g o k y W → (Instr.lookup 69 (.map (some y.wb)) (.int .i64 x) true).run Try.prog W = .ok (.tuple #[nv (y.c.wr x), .bool false]) W from fun W hW => by
    obtain ⟨sz, hm⟩ := hW.wr
    rw [hm.look HX.out, hwr])
  have HK := Lib.hid hk
  clear h hrd hwr hx hk
  go_enter Try.func46, Try.ntmps46
  go_wp2
  generalize w.alloc (.cells #[.int .i64 1, .int .i64 id, .int .i64 x, .int .i64 vk, .int .i64 vn] 53) = W1 at HN ⊢
  refine wp_region_noPanic ?_
  refine region_z 12 (fun W => NSt w ⟨1, id, x, vk, vn⟩ g o k y W) 12 1000 rfl (by kernel_rfl) (by exact HN.out.drew) (fun hHeld => ?_)
  refine take_z 0 15 (.pointer (some ⟨g, o, none⟩)) rfl rfl (by kernel_rfl) (by kernel_rfl) (by kernel_rfl) (by kernel_rfl) (fun _ _ _ h => h) (Or.inl ⟨by rfl, by intro W hW; clear hW; go_simp⟩) hHeld ?_
  simp only [put_laws]
  refine take_z 1 16 (.pointer (some ⟨g, o, none⟩)) rfl rfl (by kernel_rfl) (by kernel_rfl) (by kernel_rfl) (by kernel_rfl) (fun _ _ _ h => h) (Or.inl ⟨by rfl, by intro W hW; clear hW; go_simp⟩) hHeld ?_
  simp only [put_laws]
  refine take_z 2 17 (.pointer (some ⟨g, o + 2, none⟩)) rfl rfl (by kernel_rfl) (by kernel_rfl) (by kernel_rfl) (by kernel_rfl) (fun _ _ _ h => h) (Or.inl ⟨by rfl, by intro W hW; clear hW; go_simp⟩) hHeld ?_
  simp only [put_laws]
  refine take_z 3 18 (.map (some y.rb)) rfl rfl (by kernel_rfl) (by kernel_rfl) (by kernel_rfl) (by kernel_rfl) (fun _ _ _ h => h) (Or.inl ⟨by rfl, by intro W hW; have c := hW.c2; clear hW; go_simp⟩) hHeld ?_
  simp only [put_laws]
  refine take_z 4 19 (.pointer (some ⟨w.heap.size, 2, none⟩)) rfl rfl (by kernel_rfl) (by kernel_rfl) (by kernel_rfl) (by kernel_rfl) (fun _ _ _ h => h) (Or.inl ⟨by rfl, by intro W hW; clear hW; go_simp⟩) hHeld ?_
  simp only [put_laws]
  refine take_z 5 20 (.int .i64 x) rfl rfl (by kernel_rfl) (by kernel_rfl) (by kernel_rfl) (by kernel_rfl) (fun _ _ _ h => h) (Or.inl ⟨by rfl, by intro W hW; have c := hW.e2; clear hW; go_simp⟩) hHeld ?_
  simp only [put_laws]
  refine take_z 6 21 (.tuple #[nv (y.c.rd x), .bool false]) rfl rfl (by kernel_rfl) (by kernel_rfl) (by kernel_rfl) (by kernel_rfl) (fun _ _ _ h => h) (Or.inl ⟨by rfl, by intro W hW; have hl := HLrb.out W hW; clear hW; go_simp⟩) hHeld ?_
  simp only [put_laws]
  refine take_z 7 14 (.tuple #[nv (y.c.rd x), .bool false]) rfl rfl (by kernel_rfl) (by kernel_rfl) (by kernel_rfl) (by kernel_rfl) (fun _ _ _ h => h) (Or.inl ⟨by rfl, by intro W hW; clear hW; go_simp⟩) hHeld ?_
  simp only [put_laws]
  refine take_z 8 22 (nv (y.c.rd x)) rfl rfl (by kernel_rfl) (by kernel_rfl) (by kernel_rfl) (by kernel_rfl) (fun _ _ _ h => h) (Or.inl ⟨by rfl, by intro W hW; clear hW; go_simp⟩) hHeld ?_
  simp only [put_laws]
  refine take_z 9 23 (.bool false) rfl rfl (by kernel_rfl) (by kernel_rfl) (by kernel_rfl) (by kernel_rfl) (fun _ _ _ h => h) (Or.inl ⟨by rfl, by intro W hW; clear hW; go_simp⟩) hHeld ?_
  simp only [put_laws]
  refine take_z 10 6 (nv (y.c.rd x)) rfl rfl (by kernel_rfl) (by kernel_rfl) (by kernel_rfl) (by kernel_rfl) (fun _ _ _ h => h) (Or.inl ⟨by rfl, by intro W hW; clear hW; go_simp⟩) hHeld ?_
  simp only [put_laws]
  refine take_z 11 7 (.bool false) rfl rfl (by kernel_rfl) (by kernel_rfl) (by kernel_rfl) (by kernel_rfl) (fun _ _ _ h => h) (Or.inl ⟨by rfl, by intro W hW; clear hW; go_simp⟩) hHeld ?_
  simp only [put_laws]
  refine anyZ_done (by kernel_rfl) ?_ _
  refine NoPanic.normal ?_
  have HH := Lib.hid hHeld
  clear hHeld
  go_wp2
  generalize W1.drew = W2 at HH ⊢
  refine wp_region_noPanic ?_
  refine region_z 12 (fun W => NSt w ⟨1, id, x, vk, vn⟩ g o k y W) 12 1000 rfl (by kernel_rfl) (by exact HH.out.drew) (fun hHeld => ?_)
  refine take_z 0 25 (.pointer (some ⟨g, o, none⟩)) rfl rfl (by kernel_rfl) (by kernel_rfl) (by kernel_rfl) (by kernel_rfl) (fun _ _ _ h => h) (Or.inl ⟨by rfl, by intro W hW; clear hW; go_simp⟩) hHeld ?_
  simp only [put_laws]
  refine take_z 1 26 (.pointer (some ⟨g, o, none⟩)) rfl rfl (by kernel_rfl) (by kernel_rfl) (by kernel_rfl) (by kernel_rfl) (fun _ _ _ h => h) (Or.inl ⟨by rfl, by intro W hW; clear hW; go_simp⟩) hHeld ?_
  simp only [put_laws]
  refine take_z 2 27 (.pointer (some ⟨g, o + 3, none⟩)) rfl rfl (by kernel_rfl) (by kernel_rfl) (by kernel_rfl) (by kernel_rfl) (fun _ _ _ h => h) (Or.inl ⟨by rfl, by intro W hW; clear hW; go_simp⟩) hHeld ?_
  simp only [put_laws]
  refine take_z 3 28 (.map (some y.wb)) rfl rfl (by kernel_rfl) (by kernel_rfl) (by kernel_rfl) (by kernel_rfl) (fun _ _ _ h => h) (Or.inl ⟨by rfl, by intro W hW; have c := hW.c3; clear hW; go_simp⟩) hHeld ?_
  simp only [put_laws]
  refine take_z 4 29 (.pointer (some ⟨w.heap.size, 2, none⟩)) rfl rfl (by kernel_rfl) (by kernel_rfl) (by kernel_rfl) (by kernel_rfl) (fun _ _ _ h => h) (Or.inl ⟨by rfl, by intro W hW; clear hW; go_simp⟩) hHeld ?_
  simp only [put_laws]
  refine take_z 5 30 (.int .i64 x) rfl rfl (by kernel_rfl) (by kernel_rfl) (by kernel_rfl) (by kernel_rfl) (fun _ _ _ h => h) (Or.inl ⟨by rfl, by intro W hW; have c := hW.e2; clear hW; go_simp⟩) hHeld ?_
  simp only [put_laws]
  refine take_z 6 31 (.tuple #[nv (y.c.wr x), .bool false]) rfl rfl (by kernel_rfl) (by kernel_rfl) (by kernel_rfl) (by kernel_rfl) (fun _ _ _ h => h) (Or.inl ⟨by rfl, by intro W hW; have hl := HLwb.out W hW; clear hW; go_simp⟩) hHeld ?_
  simp only [put_laws]
  refine take_z 7 24 (.tuple #[nv (y.c.wr x), .bool false]) rfl rfl (by kernel_rfl) (by kernel_rfl) (by kernel_rfl) (by kernel_rfl) (fun _ _ _ h => h) (Or.inl ⟨by rfl, by intro W hW; clear hW; go_simp⟩) hHeld ?_
  simp only [put_laws]
  refine take_z 8 32 (nv (y.c.wr x)) rfl rfl (by kernel_rfl) (by kernel_rfl) (by kernel_rfl) (by kernel_rfl) (fun _ _ _ h => h) (Or.inl ⟨by rfl, by intro W hW; clear hW; go_simp⟩) hHeld ?_
  simp only [put_laws]
  refine take_z 9 33 (.bool false) rfl rfl (by kernel_rfl) (by kernel_rfl) (by kernel_rfl) (by kernel_rfl) (fun _ _ _ h => h) (Or.inl ⟨by rfl, by intro W hW; clear hW; go_simp⟩) hHeld ?_
  simp only [put_laws]
  refine take_z 10 8 (nv (y.c.wr x)) rfl rfl (by kernel_rfl) (by kernel_rfl) (by kernel_rfl) (by kernel_rfl) (fun _ _ _ h => h) (Or.inl ⟨by rfl, by intro W hW; clear hW; go_simp⟩) hHeld ?_
  simp only [put_laws]
  refine take_z 11 9 (.bool false) rfl rfl (by kernel_rfl) (by kernel_rfl) (by kernel_rfl) (by kernel_rfl) (fun _ _ _ h => h) (Or.inl ⟨by rfl, by intro W hW; clear hW; go_simp⟩) hHeld ?_
  simp only [put_laws]
  refine anyZ_done (by kernel_rfl) ?_ _
  refine NoPanic.normal ?_
  have HH2 := Lib.hid hHeld
  clear hHeld
  go_wp2
  generalize W2.drew = W3 at HH2 ⊢
  refine wp_region_noPanic ?_
  refine region_z 8 (fun W => NSt w ⟨1, id, x, vk, vn⟩ g o k y W) 7 1000 rfl (by kernel_rfl) (by exact HH2.out.drew) (fun hHeld => ?_)
  refine take_z 0 40 (.pointer (some ⟨g, o, none⟩)) rfl rfl (by kernel_rfl) (by kernel_rfl) (by kernel_rfl) (by kernel_rfl) (fun _ _ _ h => h) (Or.inl ⟨by rfl, by intro W hW; clear hW; go_simp⟩) hHeld ?_
  simp only [put_laws]
  refine take_z 1 41 (.pointer (some ⟨g, o, none⟩)) rfl rfl (by kernel_rfl) (by kernel_rfl) (by kernel_rfl) (by kernel_rfl) (fun _ _ _ h => h) (Or.inl ⟨by rfl, by intro W hW; clear hW; go_simp⟩) hHeld ?_
  simp only [put_laws]
  refine take_z 2 42 (.pointer (some ⟨g, o + 2, none⟩)) rfl rfl (by kernel_rfl) (by kernel_rfl) (by kernel_rfl) (by kernel_rfl) (fun _ _ _ h => h) (Or.inl ⟨by rfl, by intro W hW; clear hW; go_simp⟩) hHeld ?_
  simp only [put_laws]
  refine take_z 3 43 (.map (some y.rb)) rfl rfl (by kernel_rfl) (by kernel_rfl) (by kernel_rfl) (by kernel_rfl) (fun _ _ _ h => h) (Or.inl ⟨by rfl, by intro W hW; have c := hW.c2; clear hW; go_simp⟩) hHeld ?_
  simp only [put_laws]
  refine take_z 4 44 (.pointer (some ⟨w.heap.size, 2, none⟩)) rfl rfl (by kernel_rfl) (by kernel_rfl) (by kernel_rfl) (by kernel_rfl) (fun _ _ _ h => h) (Or.inl ⟨by rfl, by intro W hW; clear hW; go_simp⟩) hHeld ?_
  simp only [put_laws]
  refine take_z 5 45 (.int .i64 x) rfl rfl (by kernel_rfl) (by kernel_rfl) (by kernel_rfl) (by kernel_rfl) (fun _ _ _ h => h) (Or.inl ⟨by rfl, by intro W hW; have c := hW.e2; clear hW; go_simp⟩) hHeld ?_
  simp only [put_laws]
  refine take_z 6 46 (.int .i64 (n : Nat)) rfl rfl (by kernel_rfl) (by kernel_rfl) (by kernel_rfl) (by kernel_rfl) (fun _ _ _ h => h) (Or.inl ⟨by rfl, by intro W hW; clear hW; go_simp⟩) hHeld ?_
  simp only [put_laws]
  refine anyZ_ready (rs := [7]) (by kernel_rfl) (by simp) ?_
  refine AllZ.last rfl rfl (fun K hK => ?_)
  obtain ⟨sz, hm⟩ := hHeld.rd
  refine step_putM rfl (.tmp 43) (.tmp 45) (.tmp 46) rfl y.rb k sz y.c.rd rfl hm (by have := HK.out; omega) x n rfl rfl HX.out (by omega) ?_
  intro w2 hm2 hg2
  have HE := Lib.hid (hHeld.put hg2)
  have HM := Lib.hid hm2
  refine hK.out _ _ ?_
  clear hK K hHeld hm hm2 hg2
  refine anyZ_done (by kernel_rfl) ?_ _
  refine NoPanic.normal ?_
  go_wp2
  go_end0
  exact ⟨rfl, HE.out, _, HM.out⟩
set_option maxRecDepth 100000 in
set_option maxHeartbeats 4000000 in
theorem note_w (g o n k : Nat) (y : Co) (id x vk vn : Int) (w : World) (h : NAt w k g o y) (hn : n ≤ 2000) (hx : i64p x) (hk : k ≤ 2000) :
    Calls Try.prog 46 #[.pointer (some ⟨g, o, none⟩), .int .i64 (n : Nat), .agg (evA ⟨2, id, x, vk, vn⟩)] w fun r w' => r = .returned (.tuple #[]) ∧ w.grownBy w' (some y.wb) ∧ ∃ sz, NM w' y.wb (k + 1) sz (upd y.c.wr x n) := by
  have HN := Lib.hid (NSt.new (e := ⟨2, id, x, vk, vn⟩) h)
  have HX := Lib.hid hx
  unfold evA at HN ⊢
  dsimp only at HN ⊢
  have HK := Lib.hid hk
  clear h hx hk
  go_enter Try.func46, Try.ntmps46
  go_wp2
  generalize w.alloc (.cells #[.int .i64 2, .int .i64 id, .int .i64 x, .int .i64 vk, .int .i64 vn] 53) = W1 at HN ⊢
  refine wp_region_noPanic ?_
  refine region_z 8 (fun W => NSt w ⟨2, id, x, vk, vn⟩ g o k y W) 7 1000 rfl (by kernel_rfl) (by exact HN.out.drew) (fun hHeld => ?_)
  refine take_z 0 49 (.pointer (some ⟨g, o, none⟩)) rfl rfl (by kernel_rfl) (by kernel_rfl) (by kernel_rfl) (by kernel_rfl) (fun _ _ _ h => h) (Or.inl ⟨by rfl, by intro W hW; clear hW; go_simp⟩) hHeld ?_
  simp only [put_laws]
  refine take_z 1 50 (.pointer (some ⟨g, o, none⟩)) rfl rfl (by kernel_rfl) (by kernel_rfl) (by kernel_rfl) (by kernel_rfl) (fun _ _ _ h => h) (Or.inl ⟨by rfl, by intro W hW; clear hW; go_simp⟩) hHeld ?_
  simp only [put_laws]
  refine take_z 2 51 (.pointer (some ⟨g, o + 3, none⟩)) rfl rfl (by kernel_rfl) (by kernel_rfl) (by kernel_rfl) (by kernel_rfl) (fun _ _ _ h => h) (Or.inl ⟨by rfl, by intro W hW; clear hW; go_simp⟩) hHeld ?_
  simp only [put_laws]
  refine take_z 3 52 (.map (some y.wb)) rfl rfl (by kernel_rfl) (by kernel_rfl) (by kernel_rfl) (by kernel_rfl) (fun _ _ _ h => h) (Or.inl ⟨by rfl, by intro W hW; have c := hW.c3; clear hW; go_simp⟩) hHeld ?_
  simp only [put_laws]
  refine take_z 4 53 (.pointer (some ⟨w.heap.size, 2, none⟩)) rfl rfl (by kernel_rfl) (by kernel_rfl) (by kernel_rfl) (by kernel_rfl) (fun _ _ _ h => h) (Or.inl ⟨by rfl, by intro W hW; clear hW; go_simp⟩) hHeld ?_
  simp only [put_laws]
  refine take_z 5 54 (.int .i64 x) rfl rfl (by kernel_rfl) (by kernel_rfl) (by kernel_rfl) (by kernel_rfl) (fun _ _ _ h => h) (Or.inl ⟨by rfl, by intro W hW; have c := hW.e2; clear hW; go_simp⟩) hHeld ?_
  simp only [put_laws]
  refine take_z 6 55 (.int .i64 (n : Nat)) rfl rfl (by kernel_rfl) (by kernel_rfl) (by kernel_rfl) (by kernel_rfl) (fun _ _ _ h => h) (Or.inl ⟨by rfl, by intro W hW; clear hW; go_simp⟩) hHeld ?_
  simp only [put_laws]
  refine anyZ_ready (rs := [7]) (by kernel_rfl) (by simp) ?_
  refine AllZ.last rfl rfl (fun K hK => ?_)
  obtain ⟨sz, hm⟩ := hHeld.wr
  refine step_putM rfl (.tmp 52) (.tmp 54) (.tmp 55) rfl y.wb k sz y.c.wr rfl hm (by have := HK.out; omega) x n rfl rfl HX.out (by omega) ?_
  intro w2 hm2 hg2
  have HE := Lib.hid (hHeld.put hg2)
  have HM := Lib.hid hm2
  refine hK.out _ _ ?_
  clear hK K hHeld hm hm2 hg2
  refine anyZ_done (by kernel_rfl) ?_ _
  refine NoPanic.normal ?_
  go_wp2
  go_end0
  exact ⟨rfl, HE.out, _, HM.out⟩
set_option maxRecDepth 100000 in
set_option maxHeartbeats 4000000 in
theorem note_e3 (g o n k : Nat) (y : Co) (id x vk vn : Int) (w : World) (h : NAt w k g o y) (hn : n ≤ 2000) (hb : y.c.b ≤ n) (hG : Gc y.c) :
    Calls Try.prog 46 #[.pointer (some ⟨g, o, none⟩), .int .i64 (n : Nat), .agg (evA ⟨3, id, x, vk, vn⟩)] w fun r w' => r = .returned (.tuple #[]) ∧ ∃ W1, Below w.heap.size w W1 ∧ w' = (W1.setCell ⟨g, o, none⟩ (.complex .f64 (cr ⟨y.c.b, n, true, y.c.rd, y.c.wr⟩) (ci ⟨y.c.b, n, true, y.c.rd, y.c.wr⟩))).setCell ⟨g, o + 1, none⟩ (.bool true) := by
  have HN := Lib.hid (NSt.new (e := ⟨3, id, x, vk, vn⟩) h)
  have HG := Lib.hid hG
  have HO := Lib.hid (fun W => of_end y.c.b n hb hn true y.c.rd y.c.wr W)
  have c0 := HN.out.c0
  have e0 := HN.out.e0
  have f0 := HN.out.f0
  have f1 := HN.out.f1
  have c1 := HN.out.c1
  have hg : g ≠ w.heap.size := by have := h.lt; omega
  clear h hn hb hG
  unfold evA at HN c0 c1 e0 f0 f1 ⊢
  dsimp only at HN c0 c1 e0 f0 f1 ⊢
  have hstc : ∀ (W : World) (ad : Addr) (p q : Nat) (m : Mode), (store ad (.complex .f64 p q) m).run Try.prog W = stored Try.prog W ad (.complex .f64 p q) m := fun W ad p q m => run_store Try.prog W ad _ m rfl
  go_enter Try.func46, Try.ntmps46
  go_wp2_with fail
  refine (begin_c HG.out _).mono ?_
  rintro e w1 ⟨rfl, rfl⟩
  go_wp2_with fail
  refine (HO.out _).mono ?_
  rintro e w1 ⟨rfl, rfl⟩
  go_wp2
  go_end0
  exact ⟨rfl, _, HN.out.bel, rfl⟩
set_option maxRecDepth 100000 in
set_option maxHeartbeats 4000000 in
theorem note_e4 (g o n k : Nat) (y : Co) (id x vk vn : Int) (w : World) (h : NAt w k g o y) (hn : n ≤ 2000) (hb : y.c.b ≤ n) (hG : Gc y.c) :
    Calls Try.prog 46 #[.pointer (some ⟨g, o, none⟩), .int .i64 (n : Nat), .agg (evA ⟨4, id, x, vk, vn⟩)] w fun r w' => r = .returned (.tuple #[]) ∧ ∃ W1, Below w.heap.size w W1 ∧ w' = (W1.setCell ⟨g, o, none⟩ (.complex .f64 (cr ⟨y.c.b, n, false, y.c.rd, y.c.wr⟩) (ci ⟨y.c.b, n, false, y.c.rd, y.c.wr⟩))).setCell ⟨g, o + 1, none⟩ (.bool false) := by
  have HN := Lib.hid (NSt.new (e := ⟨4, id, x, vk, vn⟩) h)
  have HG := Lib.hid hG
  have HO := Lib.hid (fun W => of_end y.c.b n hb hn false y.c.rd y.c.wr W)
  have c0 := HN.out.c0
  have e0 := HN.out.e0
  have f0 := HN.out.f0
  have f1 := HN.out.f1
  have c1 := HN.out.c1
  have hg : g ≠ w.heap.size := by have := h.lt; omega
  clear h hn hb hG
  unfold evA at HN c0 c1 e0 f0 f1 ⊢
  dsimp only at HN c0 c1 e0 f0 f1 ⊢
  have hstc : ∀ (W : World) (ad : Addr) (p q : Nat) (m : Mode), (store ad (.complex .f64 p q) m).run Try.prog W = stored Try.prog W ad (.complex .f64 p q) m := fun W ad p q m => run_store Try.prog W ad _ m rfl
  go_enter Try.func46, Try.ntmps46
  go_wp2_with fail
  refine (begin_c HG.out _).mono ?_
  rintro e w1 ⟨rfl, rfl⟩
  go_wp2_with fail
  refine (HO.out _).mono ?_
  rintro e w1 ⟨rfl, rfl⟩
  go_wp2
  go_end0
  exact ⟨rfl, _, HN.out.bel, rfl⟩
end Go.Proofs.Ytaonepbongbhoaa.Hi
namespace Go.Proofs.Ytaonepbongbhoaa.Hi
open Go.RowKit
open Tx (i64p right)
/-- a row of courses of the call's own; no two maps are one. -/
structure OwnC (W : World) (base : Nat) (v : Value) (X : List Co) (k : Nat) : Prop where
  row : Rn.Own encC W base 71 v X
  mp : ∀ x ∈ X, (∃ sz, NM W x.rb k sz x.c.rd) ∧ ∃ sz, NM W x.wb k sz x.c.wr
  ge : ∀ x ∈ X, base ≤ x.rb ∧ base ≤ x.wb
  ap : ∀ (i j : Nat) (x y : Co), X[i]? = some x → X[j]? = some y → x.rb ≠ y.wb ∧ (i ≠ j → x.rb ≠ y.rb ∧ x.wb ≠ y.wb)
theorem OwnC.nil (W : World) (base k : Nat) : OwnC W base (.slice none 0 0) [] k := ⟨Rn.Own.nil _ _ _, by simp, by simp, fun i j x y h => by simp at h⟩
theorem OwnC.below {W W' : World} {base k : Nat} {v : Value} {X : List Co} (h : OwnC W base v X k) (hb : Below W.heap.size W W') : OwnC W' base v X k :=
  ⟨h.row.below hb (Nat.le_refl _), fun x hx => by
    obtain ⟨⟨s1, h1⟩, s2, h2⟩ := h.mp x hx
    exact ⟨⟨s1, h1.below hb⟩, s2, h2.below hb⟩, h.ge, h.ap⟩
theorem OwnC.mono {W : World} {base k m : Nat} {v : Value} {X : List Co} (h : OwnC W base v X k) (hm : k ≤ m) : OwnC W base v X m :=
  ⟨h.row, fun x hx => by
    obtain ⟨⟨s1, h1⟩, s2, h2⟩ := h.mp x hx
    exact ⟨⟨s1, h1.mono hm⟩, s2, h2.mono hm⟩, h.ge, h.ap⟩
/-- the row's block holds cells. -/
theorem own_cells {α : Type} {E : Rn.Enc α} {W : World} {base : Nat} {t : TypeId} {v : Value} {X : List α} (h : Rn.Own E W base t v X) {g : Nat} (hg : v.ownBlock = some g) : ∃ c, W.heap[g]? = some (.cells c t (0, 0)) := by
  rcases h.2 with ⟨rfl, _⟩ | ⟨g', cap, cur, rfl, _, hh, _⟩
  · cases hg
  · obtain rfl : g' = g := Option.some.inj hg
    exact ⟨cur, hh⟩
theorem OwnC.snoc {W w' : World} {base k : Nat} {v v' : Value} {X : List Co} {x : Co} (h : OwnC W base v X k) (h1 : ∃ sz, NM W x.rb k sz x.c.rd) (h2 : ∃ sz, NM W x.wb k sz x.c.wr) (hge : base ≤ x.rb) (hlt : x.rb < x.wb)
    (hlow : ∀ y ∈ X, y.rb < x.rb ∧ y.wb < x.rb) (h' : Rn.Own encC w' base 71 v' (X ++ [x])) (hg : W.grownBy w' v.ownBlock) : OwnC w' base v' (X ++ [x]) k := by
  have hne : ∀ {b n sz : Nat} {f : Int → Option Nat}, NM W b n sz f → some b ≠ v.ownBlock := fun hm e => by
    obtain ⟨c, hc⟩ := own_cells h.row e.symm
    exact hm.ne hc rfl
  have hall : ∀ y ∈ X ++ [x], (∃ sz, NM W y.rb k sz y.c.rd) ∧ ∃ sz, NM W y.wb k sz y.c.wr := fun y hy => by
    rcases List.mem_append.1 hy with hy | hy
    · exact h.mp y hy
    · rw [List.mem_singleton] at hy; subst hy; exact ⟨h1, h2⟩
  refine ⟨h', fun y hy => ?_, fun y hy => ?_, fun i j y z hi hj => ?_⟩
  · obtain ⟨⟨s1, m1⟩, s2, m2⟩ := hall y hy
    exact ⟨⟨s1, m1.kept hg (hne m1)⟩, s2, m2.kept hg (hne m2)⟩
  · rcases List.mem_append.1 hy with hy | hy
    · exact h.ge y hy
    · rw [List.mem_singleton] at hy; subst hy; exact ⟨hge, by omega⟩
  · have hc : ∀ (i : Nat) (y : Co), (X ++ [x])[i]? = some y → (X[i]? = some y ∧ i < X.length) ∨ (i = X.length ∧ y = x) := fun i y hi => by
      by_cases hl : i < X.length
      · rw [List.getElem?_append_left hl] at hi; exact .inl ⟨hi, hl⟩
      · have hi' := (List.getElem?_eq_some_iff.1 hi).1
        rw [List.length_append] at hi'
        simp only [List.length_cons, List.length_nil] at hi'
        have e : i = X.length := by omega
        subst e
        rw [List.getElem?_append_right (Nat.le_refl _)] at hi
        simp at hi
        exact .inr ⟨rfl, hi.symm⟩
    rcases hc i y hi with ⟨hy, li⟩ | ⟨ei, rfl⟩
    · rcases hc j z hj with ⟨hz, lj⟩ | ⟨ej, rfl⟩
      · exact h.ap i j y z hy hz
      · have := hlow y (List.mem_of_getElem? hy)
        exact ⟨by omega, fun _ => ⟨by omega, by omega⟩⟩
    · rcases hc j z hj with ⟨hz, lj⟩ | ⟨ej, rfl⟩
      · have := hlow z (List.mem_of_getElem? hz)
        exact ⟨by omega, fun _ => ⟨by omega, by omega⟩⟩
      · exact ⟨by omega, fun h => absurd (ei.trans ej.symm) h⟩
theorem set_at {X : List Co} {j i : Nat} {x' y : Co} (h : (X.set j x')[i]? = some y) : (i = j ∧ y = x') ∨ (i ≠ j ∧ X[i]? = some y) := by
  by_cases e : i = j
  · subst e
    have hl := (List.getElem?_eq_some_iff.1 h).1
    rw [List.length_set] at hl
    rw [List.getElem?_set_self hl] at h
    exact .inl ⟨rfl, (Option.some.inj h).symm⟩
  · rw [List.getElem?_set_ne (Ne.symm e)] at h
    exact .inr ⟨e, h⟩
/-- one course is another now; its maps stay where they are. -/
theorem OwnC.turn {W w' : World} {base k : Nat} {v : Value} {X : List Co} {j : Nat} {y : Co} {c' : Cr} (h : OwnC W base v X k) (hy : X[j]? = some y) (h' : Rn.Own encC w' base 71 v (X.set j ⟨y.rb, y.wb, c'⟩))
    (h1 : ∃ sz, NM w' y.rb (k + 1) sz c'.rd) (h2 : ∃ sz, NM w' y.wb (k + 1) sz c'.wr)
    (hk : ∀ (i : Nat) (x : Co), i ≠ j → X[i]? = some x → (∃ sz, NM w' x.rb (k + 1) sz x.c.rd) ∧ ∃ sz, NM w' x.wb (k + 1) sz x.c.wr) : OwnC w' base v (X.set j ⟨y.rb, y.wb, c'⟩) (k + 1) := by
  refine ⟨h', fun x hx => ?_, fun x hx => ?_, fun a b p q ha hb => ?_⟩
  · obtain ⟨i, hi⟩ := List.getElem?_of_mem hx
    rcases set_at hi with ⟨_, rfl⟩ | ⟨e, hi⟩
    · exact ⟨h1, h2⟩
    · exact hk i x e hi
  · obtain ⟨i, hi⟩ := List.getElem?_of_mem hx
    rcases set_at hi with ⟨_, rfl⟩ | ⟨e, hi⟩
    · exact h.ge y (List.mem_of_getElem? hy)
    · exact h.ge x (List.mem_of_getElem? hi)
  · rcases set_at ha with ⟨ea, rfl⟩ | ⟨ea, ha⟩
    · rcases set_at hb with ⟨eb, rfl⟩ | ⟨eb, hb⟩
      · exact ⟨(h.ap j j y y hy hy).1, fun e => absurd (ea.trans eb.symm) e⟩
      · have := h.ap j b y q hy hb
        exact ⟨this.1, fun e => this.2 (Ne.symm eb)⟩
    · rcases set_at hb with ⟨eb, rfl⟩ | ⟨eb, hb⟩
      · have := h.ap a j p y ha hy
        exact ⟨this.1, fun e => this.2 ea⟩
      · exact h.ap a b p q ha hb
theorem set_same {X : List Co} {j : Nat} {y : Co} (hy : X[j]? = some y) : X.set j ⟨y.rb, y.wb, y.c⟩ = X := by
  obtain ⟨hl, rfl⟩ := List.getElem?_eq_some_iff.1 hy
  exact List.set_getElem_self hl
theorem flat_same {X : List Co} {j : Nat} {y y' : Co} (hy : X[j]? = some y) (h : encC.cells y' = encC.cells y) : Rn.flat encC (X.set j y') = Rn.flat encC X := by
  obtain ⟨hl, rfl⟩ := List.getElem?_eq_some_iff.1 hy
  unfold Rn.flat
  rw [List.flatMap_def, List.flatMap_def, List.map_set, h]
  congr 1
  have : encC.cells X[j] = (X.map encC.cells)[j]'(by simpa using hl) := by simp
  rw [this, List.set_getElem_self]
theorem own_same {W : World} {base : Nat} {t : TypeId} {v : Value} {X : List Co} {j : Nat} {y y' : Co} (q : Rn.Own encC W base t v X) (hy : X[j]? = some y) (h : encC.cells y' = encC.cells y) : Rn.Own encC W base t v (X.set j y') := by
  unfold Rn.Own
  rw [flat_same hy h, List.length_set]
  exact q
theorem own_grown {W w' : World} {base b : Nat} {t : TypeId} {v : Value} {X : List Co} (h : Rn.Own encC W base t v X) (hg : W.grownBy w' (some b)) (hne : ∀ g, v.ownBlock = some g → g ≠ b) : Rn.Own encC w' base t v X :=
  World.ownsRow.kept (row := some b) h hg (by
    cases hv : v.ownBlock with
    | none => simp
    | some g => exact .inr (fun e => hne g hv (Option.some.inj e)))
theorem enc_c (rb wb : Nat) (c : Cr) : encC.cells ⟨rb, wb, c⟩ = [.complex .f64 (cr c) (ci c), .bool c.com, .map (some rb), .map (some wb)] := rfl
theorem OwnC.nat {W : World} {base k g n cap : Nat} {X : List Co} {j : Nat} {y : Co} (h : OwnC W base (.slice (some ⟨g, 0, none⟩) n cap) X k) (hy : X[j]? = some y) : NAt W k g (j * 4) y := by
  have hg := fun i hi => h.row.get hy i hi
  obtain ⟨h1, h2⟩ := h.mp y (List.mem_of_getElem? hy)
  exact ⟨by simpa using hg 0 (by decide), hg 1 (by decide), hg 2 (by decide), hg 3 (by decide), h.row.free _, h.row.free _, h1, h2⟩
/-- one map was written. -/
theorem OwnC.map {W w' : World} {base k b : Nat} {v : Value} {X : List Co} {j : Nat} {y : Co} (h : OwnC W base v X k) (hy : X[j]? = some y) (hb : b = y.rb ∨ b = y.wb) (hg : W.grownBy w' (some b)) :
    Rn.Own encC w' base 71 v X ∧ Below base W w' ∧ (b ≠ y.rb → ∃ sz, NM w' y.rb (k + 1) sz y.c.rd) ∧ (b ≠ y.wb → ∃ sz, NM w' y.wb (k + 1) sz y.c.wr) ∧
      ∀ (i : Nat) (x : Co), i ≠ j → X[i]? = some x → (∃ sz, NM w' x.rb (k + 1) sz x.c.rd) ∧ ∃ sz, NM w' x.wb (k + 1) sz x.c.wr := by
  obtain ⟨⟨s1, m1⟩, s2, m2⟩ := h.mp y (List.mem_of_getElem? hy)
  have hge := h.ge y (List.mem_of_getElem? hy)
  have hlt : b < W.heap.size := hb.elim (fun e => e ▸ m1.lt) (fun e => e ▸ m2.lt)
  have hbase : base ≤ b := hb.elim (fun e => e ▸ hge.1) (fun e => e ▸ hge.2)
  refine ⟨own_grown h.row hg fun g hgv e => ?_, (Below.refl _ _).grown hg (by omega) (fun q hq => by have := Option.some.inj hq; omega), fun hne => ⟨s1, (m1.kept hg (fun e => hne (Option.some.inj e).symm)).mono (Nat.le_succ _)⟩, fun hne => ⟨s2, (m2.kept hg (fun e => hne (Option.some.inj e).symm)).mono (Nat.le_succ _)⟩, fun i x hi hx => ?_⟩
  · obtain ⟨c, hc⟩ := own_cells h.row hgv
    subst e
    rcases hb with rfl | rfl
    · exact m1.ne hc rfl
    · exact m2.ne hc rfl
  · obtain ⟨⟨t1, n1⟩, t2, n2⟩ := h.mp x (List.mem_of_getElem? hx)
    have a1 := h.ap i j x y hx hy
    have a2 := h.ap j i y x hy hx
    have a3 := a1.2 hi
    exact ⟨⟨t1, (n1.kept hg (fun e => hb.elim (fun eb => a3.1 ((Option.some.inj e).trans eb)) (fun eb => a1.1 ((Option.some.inj e).trans eb)))).mono (Nat.le_succ _)⟩,
      t2, (n2.kept hg (fun e => hb.elim (fun eb => a2.1 ((Option.some.inj e).trans eb).symm) (fun eb => a3.2 ((Option.some.inj e).trans eb)))).mono (Nat.le_succ _)⟩
theorem OwnC.done {W W1 : World} {base k g n cap m : Nat} {X : List Co} {j : Nat} {y : Co} {b : Bool} (h : OwnC W base (.slice (some ⟨g, 0, none⟩) n cap) X k) (hy : X[j]? = some y) (hb : Below W.heap.size W W1) :
    OwnC ((W1.setCell ⟨g, j * 4, none⟩ (.complex .f64 (cr ⟨y.c.b, m, b, y.c.rd, y.c.wr⟩) (ci ⟨y.c.b, m, b, y.c.rd, y.c.wr⟩))).setCell ⟨g, j * 4 + 1, none⟩ (.bool b)) base (.slice (some ⟨g, 0, none⟩) n cap) (X.set j ⟨y.rb, y.wb, ⟨y.c.b, m, b, y.c.rd, y.c.wr⟩⟩) (k + 1) ∧
      Below base W ((W1.setCell ⟨g, j * 4, none⟩ (.complex .f64 (cr ⟨y.c.b, m, b, y.c.rd, y.c.wr⟩) (ci ⟨y.c.b, m, b, y.c.rd, y.c.wr⟩))).setCell ⟨g, j * 4 + 1, none⟩ (.bool b)) := by
  have h1 := h.below hb
  have hbase := (h1.row.lt).1
  obtain ⟨cur, hcur⟩ := own_cells h1.row (g := g) rfl
  have hl := (List.getElem?_eq_some_iff.1 hy).1
  have p1 := h1.row.put hy 0 (by decide) (.complex .f64 (cr ⟨y.c.b, m, b, y.c.rd, y.c.wr⟩) (ci ⟨y.c.b, m, b, y.c.rd, y.c.wr⟩)) (v' := ⟨y.rb, y.wb, ⟨y.c.b, m, y.c.com, y.c.rd, y.c.wr⟩⟩) rfl
  have p2 := p1.put (j := j) (v := ⟨y.rb, y.wb, ⟨y.c.b, m, y.c.com, y.c.rd, y.c.wr⟩⟩) (by rw [List.getElem?_set_self hl]) 1 (by decide) (.bool b) (v' := ⟨y.rb, y.wb, ⟨y.c.b, m, b, y.c.rd, y.c.wr⟩⟩) rfl
  rw [List.set_set] at p2
  have hkeep : ∀ {b' n' sz : Nat} {f : Int → Option Nat}, NM W b' n' sz f → NM ((W1.setCell ⟨g, j * 4, none⟩ (.complex .f64 (cr ⟨y.c.b, m, b, y.c.rd, y.c.wr⟩) (ci ⟨y.c.b, m, b, y.c.rd, y.c.wr⟩))).setCell ⟨g, j * 4 + 1, none⟩ (.bool b)) b' n' sz f := fun hm => by
    have hm1 := hm.below hb
    have hne := hm1.ne hcur
    exact (hm1.cell hne).cell hne
  obtain ⟨⟨s1, m1⟩, s2, m2⟩ := h.mp y (List.mem_of_getElem? hy)
  have hbb : Below base W W1 := hb.mono (by have := h.row.lt; omega)
  exact ⟨h.turn hy p2 ⟨s1, (hkeep m1).mono (Nat.le_succ _)⟩ ⟨s2, (hkeep m2).mono (Nat.le_succ _)⟩ (fun i x _ hx => by
    obtain ⟨⟨t1, n1⟩, t2, n2⟩ := h.mp x (List.mem_of_getElem? hx)
    exact ⟨⟨t1, (hkeep n1).mono (Nat.le_succ _)⟩, t2, (hkeep n2).mono (Nat.le_succ _)⟩), (hbb.setCell hbase _).setCell hbase _⟩
/-- what note makes of the row. -/
theorem note_all {W : World} {base k g l cap n : Nat} {X : List Co} {j : Nat} {y : Co} {e : Ev} (h : OwnC W base (.slice (some ⟨g, 0, none⟩) l cap) X k) (hy : X[j]? = some y) (he : e.ok) (hn : n ≤ 2000) (hk : k ≤ 2000) (hb : y.c.b ≤ n) (hG : Gc y.c)
    (h0 : e.kd = 1 ∨ e.kd = 2 ∨ e.kd = 3 ∨ e.kd = 4) :
    Calls Try.prog 46 #[.pointer (some ⟨g, j * 4, none⟩), .int .i64 (n : Nat), .agg (evA e)] W fun r w' => r = .returned (.tuple #[]) ∧ OwnC w' base (.slice (some ⟨g, 0, none⟩) l cap) (X.set j ⟨y.rb, y.wb, note y.c n e⟩) (k + 1) ∧ Below base W w' := by
  have hN := h.nat hy
  have hlt := h.row.lt
  obtain ⟨kd, id, x, vk, vn⟩ := e
  obtain ⟨_, _, hx, _, _⟩ := he
  dsimp only at h0 hx
  have hskip : ∀ w', note y.c n ⟨kd, id, x, vk, vn⟩ = y.c → Below W.heap.size W w' → OwnC w' base (.slice (some ⟨g, 0, none⟩) l cap) (X.set j ⟨y.rb, y.wb, note y.c n ⟨kd, id, x, vk, vn⟩⟩) (k + 1) ∧ Below base W w' := fun w' e hb => by
    rw [e, set_same hy]
    exact ⟨(h.below hb).mono (Nat.le_succ _), hb.mono (by omega)⟩
  rcases h0 with rfl | rfl | rfl | rfl
  · cases hr : (y.c.rd x).isSome with
    | true =>
      refine (note_r1 g (j * 4) n k y id x vk vn W hN hx hr).mono ?_
      rintro r w' ⟨rfl, hb⟩
      exact ⟨rfl, hskip w' (by unfold note; simp [hr]) hb⟩
    | false =>
      cases hw : (y.c.wr x).isSome with
      | true =>
        refine (note_r2 g (j * 4) n k y id x vk vn W hN hx hr hw).mono ?_
        rintro r w' ⟨rfl, hb⟩
        exact ⟨rfl, hskip w' (by unfold note; simp [hw]) hb⟩
      | false =>
        refine (note_r3 g (j * 4) n k y id x vk vn W hN hn hx hr hw hk).mono ?_
        rintro r w' ⟨rfl, hg, sz, hm⟩
        obtain ⟨q1, q2, q3, q4, q5⟩ := h.map hy (.inl rfl) hg
        have e : note y.c n ⟨1, id, x, vk, vn⟩ = ⟨y.c.b, y.c.e, y.c.com, upd y.c.rd x n, y.c.wr⟩ := by unfold note; simp [hr, hw]
        rw [e]
        have hr' : Rn.Own encC w' base 71 (.slice (some ⟨g, 0, none⟩) l cap) (X.set j ⟨y.rb, y.wb, ⟨y.c.b, y.c.e, y.c.com, upd y.c.rd x n, y.c.wr⟩⟩) := by
          exact own_same q1 hy rfl
        exact ⟨rfl, h.turn hy hr' ⟨sz, hm⟩ (q4 (h.ap j j y y hy hy).1) q5, q2⟩
  · refine (note_w g (j * 4) n k y id x vk vn W hN hn hx hk).mono ?_
    rintro r w' ⟨rfl, hg, sz, hm⟩
    obtain ⟨q1, q2, q3, q4, q5⟩ := h.map hy (.inr rfl) hg
    have e : note y.c n ⟨2, id, x, vk, vn⟩ = ⟨y.c.b, y.c.e, y.c.com, y.c.rd, upd y.c.wr x n⟩ := by unfold note; simp
    rw [e]
    have hr' : Rn.Own encC w' base 71 (.slice (some ⟨g, 0, none⟩) l cap) (X.set j ⟨y.rb, y.wb, ⟨y.c.b, y.c.e, y.c.com, y.c.rd, upd y.c.wr x n⟩⟩) := by
      exact own_same q1 hy rfl
    exact ⟨rfl, h.turn hy hr' (q3 (h.ap j j y y hy hy).1.symm) ⟨sz, hm⟩ q5, q2⟩
  · refine (note_e3 g (j * 4) n k y id x vk vn W hN hn hb hG).mono ?_
    rintro r w' ⟨rfl, W1, hb1, rfl⟩
    have e : note y.c n ⟨3, id, x, vk, vn⟩ = ⟨y.c.b, n, true, y.c.rd, y.c.wr⟩ := by unfold note; simp
    rw [e]
    exact ⟨rfl, h.done hy hb1⟩
  · refine (note_e4 g (j * 4) n k y id x vk vn W hN hn hb hG).mono ?_
    rintro r w' ⟨rfl, W1, hb1, rfl⟩
    have e : note y.c n ⟨4, id, x, vk, vn⟩ = ⟨y.c.b, n, false, y.c.rd, y.c.wr⟩ := by unfold note; simp
    rw [e]
    exact ⟨rfl, h.done hy hb1⟩
end Go.Proofs.Ytaonepbongbhoaa.Hi
