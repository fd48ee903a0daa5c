/-
  Contracts of what topo.Insert hands to spread, and of spread.
-/
import Derived.Test.YtakoceablbgchaaDoorTopoSort
namespace Go.Proofs.YtakoceablbgchaaDoor
open Go.RowKit
attribute [local go_sem ↓] Go.wp_at_zero Go.wp_at_succ
/-- a value laid into its slot, in one. -/
theorem put_laws : (∀ (a : Act) (d : Nat) (v : Value), a.put (some d) v = { a with tmps := a.tmps.setIfInBounds d v }) ∧ (∀ (l : List Value) (i : Nat) (v : Value), l.toArray.setIfInBounds i v = (l.set i v).toArray) ∧
    (∀ (x y : Value) (l : List Value), (x :: l).set 0 y = y :: l) ∧ (∀ (x y : Value) (l : List Value) (n : Nat), (x :: l).set (n + 1) y = x :: l.set n y) :=
  ⟨fun _ _ _ => rfl, fun _ _ _ => by simp, fun _ _ _ => rfl, fun _ _ _ _ => rfl⟩
/-- where the literals find the band and the graph. -/
structure LSt (x gb : Nat) (m : Mm.Gr) (g : Nat) (W : World) : Prop where
  cell : W.cell? ⟨gb, 0, none⟩ = some (.int .u64 (x : Nat))
  gr : MatAt W g m 27
theorem LSt.below {x gb g : Nat} {m : Mm.Gr} {W W' : World} (h : LSt x gb m g W) (hb : Below W.heap.size W W') : LSt x gb m g W' :=
  ⟨(hb.cell (p := ⟨gb, 0, none⟩) (cell_lt h.cell)).trans h.cell, h.gr.below hb⟩
structure LIn (w : World) (x gb : Nat) (m : Mm.Gr) (g : Nat) (W : World) : Prop where
  l : LSt x gb m g W
  bel : Below w.heap.size w W
theorem LIn.below {w W W' : World} {x gb g : Nat} {m : Mm.Gr} (h : LIn w x gb m g W) (hb : Below W.heap.size W W') : LIn w x gb m g W' := ⟨h.l.below hb, h.bel.trans (hb.mono h.bel.size)⟩
theorem and_key {x y : Nat} (hx : x < 4294967296) (hy : y < 4294967296) : bits .and .u64 (x : Int) (y : Int) = ((x &&& y : Nat) : Int) := bits_and_u64_nat x y (by omega) (by omega)
set_option maxHeartbeats 1000000 in
set_option maxRecDepth 100000 in
theorem foreL_in (m : Mm.Gr) (x gb g b : Nat) (w : World) (hm : Mm.Ok m) (hx : x < 4294967296) (hb : b < 32) (hl : LSt x gb m g w) :
    Calls Tryd.prog 67 #[.int .i64 (b : Nat), .pointer (some ⟨gb, 0, none⟩), .pointer (some ⟨g, 0, none⟩)] w fun e w' => e = .returned (.int .u64 (x &&& Mm.outs m b : Nat)) ∧ Below w.heap.size w w' := by
  have HL := Lib.hid (LIn.mk hl (Below.refl w.heap.size w))
  have HK := Lib.hid (and_key hx (Mm.outs_lt m b))
  clear hl
  go_enter Tryd.func67, Tryd.ntmps67
  go_wp2_with fail
  refine wp_region_noPanic ?_
  refine region_start (S := LIn w x gb m g) 6 rfl (by kernel_rfl) (HL.out.below (below_drew w)) (fun hHeld => ?_)
  refine take_at 0 5 (.int .u64 (x : Nat)) rfl rfl (by kernel_rfl) (by kernel_rfl) (by kernel_rfl) (fun _ _ _ h => h) (Or.inl ⟨by rfl, by intro W hW; have hc := hW.l.cell; clear hW; go_simp⟩) hHeld ?_
  simp only [put_laws]
  refine take_at 1 6 (.agg (matA m)) rfl rfl (by kernel_rfl) (by kernel_rfl) (by kernel_rfl) (fun _ _ _ h => h) (yields_row (by rfl) 27 (.tmp 2) rfl (g) rfl 27 (matA m) (fun W h => h.l.gr) Tryd.underlying27 (matInfo _)) hHeld ?_
  simp only [put_laws]
  refine take_at 2 7 (.int .i64 (b : Nat)) rfl rfl (by kernel_rfl) (by kernel_rfl) (by kernel_rfl) (fun _ _ _ h => h) (Or.inl ⟨by rfl, by intro W hW; clear hW; go_simp⟩) hHeld ?_
  simp only [put_laws]
  refine wpAnyH_ready (rs := [3]) (by kernel_rfl) (by simp) ?_
  refine AllReadyH.cons rfl (fun K hK => ?_) AllReadyH.nil
  go_simp
  refine (outs_in m b _ hm hb).mono ?_
  rintro e w1 ⟨rfl, hb1⟩
  try go_simp
  have hHeld := hHeld.below hb1
  refine hK.out _ _ hHeld (fun hHeld => ?_)
  clear hK K
  refine take_at 4 9 (.int .u64 (x &&& Mm.outs m b : Nat)) rfl rfl (by kernel_rfl) (by kernel_rfl) (by kernel_rfl) (fun _ _ _ h => h) (Or.inl ⟨by rfl, by intro W hW; have hk := HK.out; clear hW; go_simp⟩) hHeld ?_
  simp only [put_laws]
  refine take_at 5 4 (.int .u64 (x &&& Mm.outs m b : Nat)) rfl rfl (by kernel_rfl) (by kernel_rfl) (by kernel_rfl) (fun _ _ _ h => h) (Or.inl ⟨by rfl, by intro W hW; clear hW; go_simp⟩) hHeld ?_
  simp only [put_laws]
  refine wpAnyH_done (by kernel_rfl) ?_ _
  refine NoPanic.normal ?_
  go_wp2
  go_ret
  exact ⟨rfl, hHeld.bel⟩
set_option maxHeartbeats 1000000 in
set_option maxRecDepth 100000 in
theorem hindL_in (m : Mm.Gr) (x gb g b : Nat) (w : World) (hm : Mm.Ok m) (hx : x < 4294967296) (hb : b < 32) (hl : LSt x gb m g w) :
    Calls Tryd.prog 68 #[.int .i64 (b : Nat), .pointer (some ⟨gb, 0, none⟩), .pointer (some ⟨g, 0, none⟩)] w fun e w' => e = .returned (.int .u64 (x &&& Mm.ins m b : Nat)) ∧ Below w.heap.size w w' := by
  have HL := Lib.hid (LIn.mk hl (Below.refl w.heap.size w))
  have HK := Lib.hid (and_key hx (Mm.ins_lt m b))
  clear hl
  go_enter Tryd.func68, Tryd.ntmps68
  go_wp2_with fail
  refine wp_region_noPanic ?_
  refine region_start (S := LIn w x gb m g) 6 rfl (by kernel_rfl) (HL.out.below (below_drew w)) (fun hHeld => ?_)
  refine take_at 0 5 (.int .u64 (x : Nat)) rfl rfl (by kernel_rfl) (by kernel_rfl) (by kernel_rfl) (fun _ _ _ h => h) (Or.inl ⟨by rfl, by intro W hW; have hc := hW.l.cell; clear hW; go_simp⟩) hHeld ?_
  simp only [put_laws]
  refine take_at 1 6 (.agg (matA m)) rfl rfl (by kernel_rfl) (by kernel_rfl) (by kernel_rfl) (fun _ _ _ h => h) (yields_row (by rfl) 27 (.tmp 2) rfl (g) rfl 27 (matA m) (fun W h => h.l.gr) Tryd.underlying27 (matInfo _)) hHeld ?_
  simp only [put_laws]
  refine take_at 2 7 (.int .i64 (b : Nat)) rfl rfl (by kernel_rfl) (by kernel_rfl) (by kernel_rfl) (fun _ _ _ h => h) (Or.inl ⟨by rfl, by intro W hW; clear hW; go_simp⟩) hHeld ?_
  simp only [put_laws]
  refine wpAnyH_ready (rs := [3]) (by kernel_rfl) (by simp) ?_
  refine AllReadyH.cons rfl (fun K hK => ?_) AllReadyH.nil
  go_simp
  refine (ins_in m b _ hm hb).mono ?_
  rintro e w1 ⟨rfl, hb1⟩
  try go_simp
  have hHeld := hHeld.below hb1
  refine hK.out _ _ hHeld (fun hHeld => ?_)
  clear hK K
  refine take_at 4 9 (.int .u64 (x &&& Mm.ins m b : Nat)) rfl rfl (by kernel_rfl) (by kernel_rfl) (by kernel_rfl) (fun _ _ _ h => h) (Or.inl ⟨by rfl, by intro W hW; have hk := HK.out; clear hW; go_simp⟩) hHeld ?_
  simp only [put_laws]
  refine take_at 5 4 (.int .u64 (x &&& Mm.ins m b : Nat)) rfl rfl (by kernel_rfl) (by kernel_rfl) (by kernel_rfl) (fun _ _ _ h => h) (Or.inl ⟨by rfl, by intro W hW; clear hW; go_simp⟩) hHeld ?_
  simp only [put_laws]
  refine wpAnyH_done (by kernel_rfl) ?_ _
  refine NoPanic.normal ?_
  go_wp2
  go_ret
  exact ⟨rfl, hHeld.bel⟩
end Go.Proofs.YtakoceablbgchaaDoor
