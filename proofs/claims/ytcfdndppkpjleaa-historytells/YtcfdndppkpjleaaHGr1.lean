/-
  Contracts of left, source and overwrites.
-/
import Derived.Test.YtcfdndppkpjleaaHGrM
import Derived.Test.YtcfdndppkpjleaaHEnt
namespace Go.Proofs.Ytcfdndppkpjleaa.Hi
open Go.RowKit
open Tx (i64p)
open Az
set_option maxHeartbeats 1000000 in
theorem left_any (x : Co) (v : Int) (w : World) (hv : i64p v) (hm : ∃ sz, NM w x.wb 2000 sz x.c.wr) : Calls Try.prog 58 #[.agg (coA x), .int .i64 v] w fun r w' => r = .returned (.bool (left x.c v)) ∧ Below w.heap.size w w' := by
  obtain ⟨sz, hm⟩ := hm
  have hl := (hm.alloc (.cells (coA x) 82)).look hv
  unfold left
  generalize (x.c.wr v).isSome = b at *
  unfold coA at hl ⊢
  cases hc : x.c.com with
  | true =>
    rw [hc] at hl
    go_enter Try.func58, Try.ntmps58
    go_wp2
    go_ret
    exact ⟨rfl, Rn.below_new _ _⟩
  | false =>
    rw [hc] at hl
    go_enter Try.func58, Try.ntmps58
    go_wp2
    go_ret
    exact ⟨rfl, Rn.below_new _ _⟩
theorem left_val (x : Co) (v : Int) (w : World) {b : Bool} (hv : i64p v) (hm : ∃ sz, NM w x.wb 2000 sz x.c.wr) (hb : left x.c v = b) : Calls Try.prog 58 #[.agg (coA x), .int .i64 v] w fun r w' => r = .returned (.bool b) ∧ Below w.heap.size w w' := hb ▸ left_any x v w hv hm
theorem end_val {c : Cr} {z : Int} (h : Gc c) (hz : (c.e : Int) = z) (w : World) : Calls Try.prog 23 #[.complex .f64 (cr c) (ci c)] w fun e w' => e = .returned (.int .i64 z) ∧ w = w' := hz ▸ end_c h w
/-- a course's box, the courses, and all that lay there. -/
structure Bx (w : World) (B : Option Addr) (X : List Co) (q : Nat) (x : Co) (W : World) : Prop where
  c0 : W.cell? ⟨q, 0, none⟩ = some (.complex .f64 (cr x.c) (ci x.c))
  c1 : W.cell? ⟨q, 1, none⟩ = some (.bool x.c.com)
  c2 : W.cell? ⟨q, 2, none⟩ = some (.map (some x.rb))
  c3 : W.cell? ⟨q, 3, none⟩ = some (.map (some x.wb))
  rc : RdC W B X
  bel : Below w.heap.size w W
section
variable {w : World} {B : Option Addr} {X : List Co} {q : Nat} {x : Co}
theorem Bx.below {W W' : World} (h : Bx w B X q x W) (hb : Below W.heap.size W W') : Bx w B X q x W' :=
  ⟨(hb.cell (Rn.cell_lt h.c0)).trans h.c0, (hb.cell (Rn.cell_lt h.c1)).trans h.c1, (hb.cell (Rn.cell_lt h.c2)).trans h.c2, (hb.cell (Rn.cell_lt h.c3)).trans h.c3, h.rc.below hb, h.bel.trans (hb.mono h.bel.size)⟩
theorem Bx.drew {W : World} (h : Bx w B X q x W) : Bx w B X q x W.drew := h.below (Below.refl _ _).drew
theorem Bx.new {W : World} (hr : RdC W B X) (hb : Below w.heap.size w W) (x : Co) : Bx w B X W.heap.size x (W.alloc (.cells (coA x) 82)) := by
  have hbx := heap_alloc_new W (.cells (coA x) 82)
  exact ⟨cell_of_row _ _ 0 _ _ _ hbx, cell_of_row _ _ 1 _ _ _ hbx, cell_of_row _ _ 2 _ _ _ hbx, cell_of_row _ _ 3 _ _ _ hbx, hr.below (Rn.below_new _ _), hb.alloc hb.size _⟩
end
theorem srcTo_skip {l : List Cr} {x : Int} {n k : Nat} {c : Cr} (hc : l[k]? = some c) (h : ¬ (left c x = true ∧ c.e ≤ n)) : srcTo l x n (k + 1) = srcTo l x n k := by
  conv => lhs; unfold srcTo
  rw [hc]; simp only; rw [if_neg h]
theorem srcTo_first {l : List Cr} {x : Int} {n k : Nat} {c : Cr} (hc : l[k]? = some c) (h : left c x = true ∧ c.e ≤ n) (h0 : srcTo l x n k = -1) : srcTo l x n (k + 1) = (k : Int) := by
  conv => lhs; unfold srcTo
  rw [hc]; simp only; rw [if_pos h, if_pos h0]
theorem srcTo_turn {l : List Cr} {x : Int} {n k a : Nat} {c d : Cr} (hc : l[k]? = some c) (h : left c x = true ∧ c.e ≤ n) (h0 : srcTo l x n k = (a : Int)) (hd : l[a]? = some d) : srcTo l x n (k + 1) = if d.e < c.e then (k : Int) else (a : Int) := by
  conv => lhs; unfold srcTo
  rw [hc]; simp only
  rw [if_pos h, if_neg (by omega), h0, show ((a : Int)).toNat = a by omega, hd]
def SrcRel (w : World) (B : Option Addr) (X : List Co) (x : Int) (n : Nat) (v i : Value) (wr : World) : Prop := ∃ k : Nat, k ≤ X.length ∧ v = .int .i64 (srcTo (cs X) x n k) ∧ i = .int .i64 k ∧ RdC wr B X ∧ Below w.heap.size w wr
set_option maxRecDepth 100000 in
set_option maxHeartbeats 8000000 in
theorem source_any (B : Option Addr) (d : Nat) (X : List Co) (x : Int) (n : Nat) (w : World) (h : RdC w B X) (hl : X.length ≤ 100) (hx : i64p x) (_ : n ≤ 2000) :
    Calls Try.prog 61 #[.slice B X.length d, .int .i64 x, .int .i64 (n : Nat)] w fun r w' => r = .returned (.int .i64 (src (cs X) x n)) ∧ Below w.heap.size w w' := by
  have H := Lib.hid h
  have HXV := Lib.hid hx
  have hXN : (X.length : Int) ≤ 100 := by omega
  have hstc : ∀ (W : World) (ad : Addr) (p q : Nat) (m : Mode), (store ad (.complex .f64 p q) m).run Try.prog W = stored Try.prog W ad (.complex .f64 p q) m := fun W ad p q m => run_store Try.prog W ad _ m rfl
  clear h hx
  go_enter Try.func61, Try.ntmps61
  go_wp2
  go_loopw [7, 12] (SrcRel w B X x n) (fun _ i _ => X.length - (intOf i).toNat)
  case atStart => exact ⟨0, Nat.zero_le _, rfl, rfl, H.out, Below.refl _ _⟩
  case round =>
    obtain ⟨k, hk, rfl, rfl, hr, hb⟩ := hrel
    have HR := Lib.hid hr
    have HB := Lib.hid hb
    clear hr hb
    by_cases hlt : k < X.length
    · have hlt' : (k : Int) < (X.length : Int) := by omega
      have hy : X[k]? = some X[k] := List.getElem?_eq_getElem hlt
      generalize hYY : X[k] = y at hy
      have HKB := Lib.hid hlt
      have HY := Lib.hid hy
      have HCY := Lib.hid (cs_at hy)
      have HMY := Lib.hid (List.mem_of_getElem? hy)
      have HGY := Lib.hid (HR.out.gc y HMY.out)
      obtain ⟨ad, rfl, c0, c1, c2, c3⟩ := atC HR.out.row hy
      have HS0 := Lib.hid (Bx.new HR.out HB.out y)
      generalize hs : srcTo (cs X) x n k = s
      have HS := Lib.hid hs
      clear hy hYY hs
      unfold coA at HS0
      cases hlf : left y.c x with
      | false =>
        have HLF := Lib.hid hlf
        have HSK := Lib.hid (srcTo_skip (n := n) HCY.out (fun h => by rw [HLF.out] at h; cases h.1))
        clear hlf
        go_wp2_with fail
        refine (left_val y x _ HXV.out (HS0.out.rc.mp y HMY.out).2 HLF.out).mono ?_
        rintro r w1 ⟨rfl, hb⟩
        have HH := Lib.hid (HS0.out.below hb)
        clear hb c0 c1 c2 c3
        go_wp2
        go_round
        case rel => exact ⟨k + 1, by have := HKB.out; omega, by rw [HSK.out, HS.out], by go_num, HH.out.rc, HH.out.bel⟩
        case measure => simp [intOf]; have := HKB.out; omega
      | true =>
        have HLF := Lib.hid hlf
        clear hlf
        by_cases hen : y.c.e ≤ n
        · have hen' : ¬ (y.c.e : Int) > (n : Int) := by omega
          go_wp2_with fail
          refine (left_val y x _ HXV.out (HS0.out.rc.mp y HMY.out).2 HLF.out).mono ?_
          rintro r w1 ⟨rfl, hb⟩
          have HBX := Lib.hid (HS0.out.below hb)
          clear hb c0 c1 c2 c3
          have c0 := HBX.out.c0
          go_wp2_with fail
          refine (end_c HGY.out _).mono ?_
          rintro r w2 ⟨rfl, rfl⟩
          clear c0
          go_wp2
          rcases srcTo_spec (cs X) x n k (by rw [cs_len]; exact hk) with ⟨h0, _⟩ | ⟨a, dd, h0, h1⟩
          · obtain rfl : s = -1 := by rw [← HS.out, h0]
            have HSK := Lib.hid (srcTo_first HCY.out ⟨HLF.out, hen⟩ h0)
            clear h0
            refine wp_region_noPanic ?_
            refine region_z 14 (fun W => Bx w (some ad) X wr.heap.size y W) 14 1000 rfl (by kernel_rfl) (by exact HBX.out.drew) (fun hHeld => ?_)
            refine take_d [1, 2, 3, 4, 5, 6, 7, 8, 9, 10, 11, 12, 13] 0 28 (.int .i64 (-1)) rfl rfl (by kernel_rfl) (by kernel_rfl) (by kernel_rfl) (by kernel_rfl) (fun _ _ _ h => h) (Or.inl ⟨by rfl, by intro W hW; clear hW; go_simp⟩) hHeld ?_
            simp only [put_laws]
            refine take_d [2, 3, 4, 5, 6, 7, 8, 9, 10, 11, 12, 13] 1 29 (.bool true) rfl rfl (by kernel_rfl) (by kernel_rfl) (by kernel_rfl) (by kernel_rfl) (fun _ _ _ h => h) (Or.inl ⟨by rfl, by intro W hW; clear hW; go_simp⟩) hHeld ?_
            simp only [put_laws]
            refine take_d [3, 4, 5, 6, 7, 8, 9, 10, 11, 12, 13] 2 30 (.bool true) rfl rfl (by kernel_rfl) (by kernel_rfl) (by kernel_rfl) (by kernel_rfl) (fun _ _ _ h => h) (Or.inl ⟨by rfl, by intro W hW; clear hW; go_simp⟩) hHeld ?_
            simp only [put_laws]
            refine take_d [4, 5, 11, 12, 13] 3 31 undef rfl rfl (by kernel_rfl) (by kernel_rfl) (by kernel_rfl) (by kernel_rfl) (fun _ _ _ h => h) (Or.inr ⟨by rfl, rfl⟩) hHeld ?_
            simp only [put_laws]
            refine take_d [5, 11, 12, 13] 4 32 undef rfl rfl (by kernel_rfl) (by kernel_rfl) (by kernel_rfl) (by kernel_rfl) (fun _ _ _ h => h) (Or.inr ⟨by rfl, rfl⟩) hHeld ?_
            simp only [put_laws]
            refine take_d [11, 12, 13] 5 33 undef rfl rfl (by kernel_rfl) (by kernel_rfl) (by kernel_rfl) (by kernel_rfl) (fun _ _ _ h => h) (Or.inr ⟨by rfl, rfl⟩) hHeld ?_
            simp only [put_laws]
            refine take_d [8, 9, 10, 11, 12, 13] 6 34 undef rfl rfl (by kernel_rfl) (by kernel_rfl) (by kernel_rfl) (by kernel_rfl) (fun _ _ _ h => h) (Or.inr ⟨by rfl, rfl⟩) hHeld ?_
            simp only [put_laws]
            refine take_d [8, 9, 10, 11, 12, 13] 7 35 undef rfl rfl (by kernel_rfl) (by kernel_rfl) (by kernel_rfl) (by kernel_rfl) (fun _ _ _ h => h) (Or.inr ⟨by rfl, rfl⟩) hHeld ?_
            simp only [put_laws]
            refine take_d [9, 10, 11, 12, 13] 8 36 undef rfl rfl (by kernel_rfl) (by kernel_rfl) (by kernel_rfl) (by kernel_rfl) (fun _ _ _ h => h) (Or.inr ⟨by rfl, rfl⟩) hHeld ?_
            simp only [put_laws]
            refine take_d [10, 11, 12, 13] 9 37 undef rfl rfl (by kernel_rfl) (by kernel_rfl) (by kernel_rfl) (by kernel_rfl) (fun _ _ _ h => h) (Or.inr ⟨by rfl, rfl⟩) hHeld ?_
            simp only [put_laws]
            refine take_d [11, 12, 13] 10 38 undef rfl rfl (by kernel_rfl) (by kernel_rfl) (by kernel_rfl) (by kernel_rfl) (fun _ _ _ h => h) (Or.inr ⟨by rfl, rfl⟩) hHeld ?_
            simp only [put_laws]
            refine take_d [12, 13] 11 39 undef rfl rfl (by kernel_rfl) (by kernel_rfl) (by kernel_rfl) (by kernel_rfl) (fun _ _ _ h => h) (Or.inr ⟨by rfl, rfl⟩) hHeld ?_
            simp only [put_laws]
            refine take_d [13] 12 40 undef rfl rfl (by kernel_rfl) (by kernel_rfl) (by kernel_rfl) (by kernel_rfl) (fun _ _ _ h => h) (Or.inr ⟨by rfl, rfl⟩) hHeld ?_
            simp only [put_laws]
            refine take_d [] 13 41 (.bool true) rfl rfl (by kernel_rfl) (by kernel_rfl) (by kernel_rfl) (by kernel_rfl) (fun _ _ _ h => h) (Or.inl ⟨by rfl, by intro W hW; clear hW; go_simp⟩) hHeld ?_
            simp only [put_laws]
            refine anyZ_done (by kernel_rfl) ?_ _
            refine NoPanic.normal ?_
            have HH := Lib.hid hHeld
            clear hHeld
            go_wp2
            go_roundw
            case rel => exact ⟨k + 1, by have := HKB.out; omega, by rw [HSK.out], by go_num, HH.out.rc, HH.out.bel⟩
            case measure => simp [intOf]; have := HKB.out; omega
          · obtain rfl : s = (a : Int) := by rw [← HS.out, h0]
            have hal : a < X.length := by have := (List.getElem?_eq_some_iff.1 h1.at_).1; rwa [cs_len] at this
            have hz : X[a]? = some X[a] := List.getElem?_eq_getElem hal
            generalize hZZ : X[a] = z at hz
            obtain rfl : z.c = dd := Option.some.inj ((cs_at hz).symm.trans h1.at_)
            have HZ := Lib.hid hz
            have HGZ := Lib.hid (HR.out.gc z (List.mem_of_getElem? hz))
            have HAB := Lib.hid hal
            have HAN := Lib.hid (show (a : Int) < (X.length : Int) from by omega)
            have HNE := Lib.hid (show ((a : Int) == -1) = false from by rw [beq_eq_false_iff_ne]; omega)
            have HSK := Lib.hid (srcTo_turn HCY.out ⟨HLF.out, hen⟩ h0 h1.at_)
            clear h0 h1 hal hz hZZ
            by_cases hzy : z.c.e < y.c.e
            · have HLT := Lib.hid (show (z.c.e : Int) < (y.c.e : Int) from by omega)
              have HSK := Lib.hid (show srcTo (cs X) x n (k + 1) = (k : Int) from by rw [HSK.out, if_pos hzy])
              clear hzy
              refine wp_region_noPanic ?_
              refine region_z 14 (fun W => Bx w (some ad) X wr.heap.size y W) 14 1000 rfl (by kernel_rfl) (by exact HBX.out.drew) (fun hHeld => ?_)
              refine take_d [1, 2, 3, 4, 5, 6, 7, 8, 9, 10, 11, 12, 13] 0 28 (.int .i64 (a : Nat)) rfl rfl (by kernel_rfl) (by kernel_rfl) (by kernel_rfl) (by kernel_rfl) (fun _ _ _ h => h) (Or.inl ⟨by rfl, by intro W hW; clear hW; go_simp⟩) hHeld ?_
              simp only [put_laws]
              refine take_d [2, 3, 4, 5, 6, 7, 8, 9, 10, 11, 12, 13] 1 29 (.bool false) rfl rfl (by kernel_rfl) (by kernel_rfl) (by kernel_rfl) (by kernel_rfl) (fun _ _ _ h => h) (Or.inl ⟨by rfl, by intro W hW; have hq := HNE.out; clear hW; go_simp⟩) hHeld ?_
              simp only [put_laws]
              refine take_d [3, 4, 5, 6, 7, 8, 9, 10, 11, 12, 13] 2 30 (.bool false) rfl rfl (by kernel_rfl) (by kernel_rfl) (by kernel_rfl) (by kernel_rfl) (fun _ _ _ h => h) (Or.inl ⟨by rfl, by intro W hW; clear hW; go_simp⟩) hHeld ?_
              simp only [put_laws]
              refine take_d [4, 5, 11, 12, 13] 3 31 (.pointer (some ⟨wr.heap.size, 0, none⟩)) rfl rfl (by kernel_rfl) (by kernel_rfl) (by kernel_rfl) (by kernel_rfl) (fun _ _ _ h => h) (Or.inl ⟨by rfl, by intro W hW; clear hW; go_simp⟩) hHeld ?_
              simp only [put_laws]
              refine take_d [5, 11, 12, 13] 4 32 (.complex .f64 (cr y.c) (ci y.c)) rfl rfl (by kernel_rfl) (by kernel_rfl) (by kernel_rfl) (by kernel_rfl) (fun _ _ _ h => h) (Or.inl ⟨by rfl, by intro W hW; have c := hW.c0; clear hW; go_simp⟩) hHeld ?_
              simp only [put_laws]
              refine take_d [8, 9, 10, 11, 12, 13] 6 34 (.slice (some ad) X.length d) rfl rfl (by kernel_rfl) (by kernel_rfl) (by kernel_rfl) (by kernel_rfl) (fun _ _ _ h => h) (Or.inl ⟨by rfl, by intro W hW; clear hW; go_simp⟩) hHeld ?_
              simp only [put_laws]
              refine take_d [8, 9, 10, 11, 12, 13] 7 35 (.int .i64 (a : Nat)) rfl rfl (by kernel_rfl) (by kernel_rfl) (by kernel_rfl) (by kernel_rfl) (fun _ _ _ h => h) (Or.inl ⟨by rfl, by intro W hW; clear hW; go_simp⟩) hHeld ?_
              simp only [put_laws]
              refine take_d [9, 10, 11, 12, 13] 8 36 (.pointer (some (ad.add (a * 4)))) rfl rfl (by kernel_rfl) (by kernel_rfl) (by kernel_rfl) (by kernel_rfl) (fun _ _ _ h => h) (Or.inl ⟨by rfl, by intro W hW; have hk := HAB.out; have hk2 := HAN.out; clear hW; go_simp⟩) hHeld ?_
              simp only [put_laws]
              refine take_d [10, 11, 12, 13] 9 37 (.pointer (some (ad.add (a * 4)))) rfl rfl (by kernel_rfl) (by kernel_rfl) (by kernel_rfl) (by kernel_rfl) (fun _ _ _ h => h) (Or.inl ⟨by rfl, by intro W hW; clear hW; go_simp⟩) hHeld ?_
              simp only [put_laws]
              refine take_d [11, 12, 13] 10 38 (.complex .f64 (cr z.c) (ci z.c)) rfl rfl (by kernel_rfl) (by kernel_rfl) (by kernel_rfl) (by kernel_rfl) (fun _ _ _ h => h) (Or.inl ⟨by rfl, by intro W hW; have hh := atC hW.rc.row HZ.out; obtain ⟨ad2, e2, hh⟩ := hh; have e2 := Option.some.inj e2; subst e2; obtain ⟨z0, _, _, _⟩ := hh; clear hW; go_simp⟩) hHeld ?_
              simp only [put_laws]
              refine anyZ_ready (rs := [5]) (by kernel_rfl) (by simp) ?_
              refine AllZ.cons rfl (fun K hK => ?_) AllZ.nil
              go_simp
              refine (end_c HGY.out _).mono ?_
              rintro e w2 ⟨rfl, rfl⟩
              try go_simp
              have hPrev := hHeld
              have hHeld := hPrev
              clear hPrev
              refine hK.out _ _ hHeld (fun hHeld => ?_)
              clear hK K
              refine anyZ_ready (rs := [11]) (by kernel_rfl) (by simp) ?_
              refine AllZ.cons rfl (fun K hK => ?_) AllZ.nil
              go_simp
              refine (end_c HGZ.out _).mono ?_
              rintro e w2 ⟨rfl, rfl⟩
              try go_simp
              have hPrev := hHeld
              have hHeld := hPrev
              clear hPrev
              refine hK.out _ _ hHeld (fun hHeld => ?_)
              clear hK K
              refine take_d [13] 12 40 (.bool true) rfl rfl (by kernel_rfl) (by kernel_rfl) (by kernel_rfl) (by kernel_rfl) (fun _ _ _ h => h) (Or.inl ⟨by rfl, by intro W hW; have hq := HLT.out; clear hW; go_simp⟩) hHeld ?_
              simp only [put_laws]
              refine take_d [] 13 41 (.bool true) rfl rfl (by kernel_rfl) (by kernel_rfl) (by kernel_rfl) (by kernel_rfl) (fun _ _ _ h => h) (Or.inl ⟨by rfl, by intro W hW; clear hW; go_simp⟩) hHeld ?_
              simp only [put_laws]
              refine anyZ_done (by kernel_rfl) ?_ _
              refine NoPanic.normal ?_
              have HH := Lib.hid hHeld
              clear hHeld
              go_wp2
              go_roundw
              case rel => exact ⟨k + 1, by have := HKB.out; omega, by rw [HSK.out], by go_num, HH.out.rc, HH.out.bel⟩
              case measure => simp [intOf]; have := HKB.out; omega
            · have HLT := Lib.hid (show y.c.e ≤ z.c.e from by omega)
              have HSK := Lib.hid (show srcTo (cs X) x n (k + 1) = (a : Int) from by rw [HSK.out, if_neg hzy])
              clear hzy
              refine wp_region_noPanic ?_
              refine region_z 14 (fun W => Bx w (some ad) X wr.heap.size y W) 14 1000 rfl (by kernel_rfl) (by exact HBX.out.drew) (fun hHeld => ?_)
              refine take_d [1, 2, 3, 4, 5, 6, 7, 8, 9, 10, 11, 12, 13] 0 28 (.int .i64 (a : Nat)) rfl rfl (by kernel_rfl) (by kernel_rfl) (by kernel_rfl) (by kernel_rfl) (fun _ _ _ h => h) (Or.inl ⟨by rfl, by intro W hW; clear hW; go_simp⟩) hHeld ?_
              simp only [put_laws]
              refine take_d [2, 3, 4, 5, 6, 7, 8, 9, 10, 11, 12, 13] 1 29 (.bool false) rfl rfl (by kernel_rfl) (by kernel_rfl) (by kernel_rfl) (by kernel_rfl) (fun _ _ _ h => h) (Or.inl ⟨by rfl, by intro W hW; have hq := HNE.out; clear hW; go_simp⟩) hHeld ?_
              simp only [put_laws]
              refine take_d [3, 4, 5, 6, 7, 8, 9, 10, 11, 12, 13] 2 30 (.bool false) rfl rfl (by kernel_rfl) (by kernel_rfl) (by kernel_rfl) (by kernel_rfl) (fun _ _ _ h => h) (Or.inl ⟨by rfl, by intro W hW; clear hW; go_simp⟩) hHeld ?_
              simp only [put_laws]
              refine take_d [4, 5, 11, 12, 13] 3 31 (.pointer (some ⟨wr.heap.size, 0, none⟩)) rfl rfl (by kernel_rfl) (by kernel_rfl) (by kernel_rfl) (by kernel_rfl) (fun _ _ _ h => h) (Or.inl ⟨by rfl, by intro W hW; clear hW; go_simp⟩) hHeld ?_
              simp only [put_laws]
              refine take_d [5, 11, 12, 13] 4 32 (.complex .f64 (cr y.c) (ci y.c)) rfl rfl (by kernel_rfl) (by kernel_rfl) (by kernel_rfl) (by kernel_rfl) (fun _ _ _ h => h) (Or.inl ⟨by rfl, by intro W hW; have c := hW.c0; clear hW; go_simp⟩) hHeld ?_
              simp only [put_laws]
              refine take_d [8, 9, 10, 11, 12, 13] 6 34 (.slice (some ad) X.length d) rfl rfl (by kernel_rfl) (by kernel_rfl) (by kernel_rfl) (by kernel_rfl) (fun _ _ _ h => h) (Or.inl ⟨by rfl, by intro W hW; clear hW; go_simp⟩) hHeld ?_
              simp only [put_laws]
              refine take_d [8, 9, 10, 11, 12, 13] 7 35 (.int .i64 (a : Nat)) rfl rfl (by kernel_rfl) (by kernel_rfl) (by kernel_rfl) (by kernel_rfl) (fun _ _ _ h => h) (Or.inl ⟨by rfl, by intro W hW; clear hW; go_simp⟩) hHeld ?_
              simp only [put_laws]
              refine take_d [9, 10, 11, 12, 13] 8 36 (.pointer (some (ad.add (a * 4)))) rfl rfl (by kernel_rfl) (by kernel_rfl) (by kernel_rfl) (by kernel_rfl) (fun _ _ _ h => h) (Or.inl ⟨by rfl, by intro W hW; have hk := HAB.out; have hk2 := HAN.out; clear hW; go_simp⟩) hHeld ?_
              simp only [put_laws]
              refine take_d [10, 11, 12, 13] 9 37 (.pointer (some (ad.add (a * 4)))) rfl rfl (by kernel_rfl) (by kernel_rfl) (by kernel_rfl) (by kernel_rfl) (fun _ _ _ h => h) (Or.inl ⟨by rfl, by intro W hW; clear hW; go_simp⟩) hHeld ?_
              simp only [put_laws]
              refine take_d [11, 12, 13] 10 38 (.complex .f64 (cr z.c) (ci z.c)) rfl rfl (by kernel_rfl) (by kernel_rfl) (by kernel_rfl) (by kernel_rfl) (fun _ _ _ h => h) (Or.inl ⟨by rfl, by intro W hW; have hh := atC hW.rc.row HZ.out; obtain ⟨ad2, e2, hh⟩ := hh; have e2 := Option.some.inj e2; subst e2; obtain ⟨z0, _, _, _⟩ := hh; clear hW; go_simp⟩) hHeld ?_
              simp only [put_laws]
              refine anyZ_ready (rs := [5]) (by kernel_rfl) (by simp) ?_
              refine AllZ.cons rfl (fun K hK => ?_) AllZ.nil
              go_simp
              refine (end_c HGY.out _).mono ?_
              rintro e w2 ⟨rfl, rfl⟩
              try go_simp
              have hPrev := hHeld
              have hHeld := hPrev
              clear hPrev
              refine hK.out _ _ hHeld (fun hHeld => ?_)
              clear hK K
              refine anyZ_ready (rs := [11]) (by kernel_rfl) (by simp) ?_
              refine AllZ.cons rfl (fun K hK => ?_) AllZ.nil
              go_simp
              refine (end_c HGZ.out _).mono ?_
              rintro e w2 ⟨rfl, rfl⟩
              try go_simp
              have hPrev := hHeld
              have hHeld := hPrev
              clear hPrev
              refine hK.out _ _ hHeld (fun hHeld => ?_)
              clear hK K
              refine take_d [13] 12 40 (.bool false) rfl rfl (by kernel_rfl) (by kernel_rfl) (by kernel_rfl) (by kernel_rfl) (fun _ _ _ h => h) (Or.inl ⟨by rfl, by intro W hW; have hq := HLT.out; clear hW; go_simp⟩) hHeld ?_
              simp only [put_laws]
              refine take_d [] 13 41 (.bool false) rfl rfl (by kernel_rfl) (by kernel_rfl) (by kernel_rfl) (by kernel_rfl) (fun _ _ _ h => h) (Or.inl ⟨by rfl, by intro W hW; clear hW; go_simp⟩) hHeld ?_
              simp only [put_laws]
              refine anyZ_done (by kernel_rfl) ?_ _
              refine NoPanic.normal ?_
              have HH := Lib.hid hHeld
              clear hHeld
              go_wp2
              go_roundw
              case rel => exact ⟨k + 1, by have := HKB.out; omega, by rw [HSK.out], by go_num, HH.out.rc, HH.out.bel⟩
              case measure => simp [intOf]; have := HKB.out; omega
        · have hen' : (y.c.e : Int) > (n : Int) := by omega
          have HSK := Lib.hid (srcTo_skip (x := x) (n := n) HCY.out (fun h => hen h.2))
          go_wp2_with fail
          refine (left_val y x _ HXV.out (HS0.out.rc.mp y HMY.out).2 HLF.out).mono ?_
          rintro r w1 ⟨rfl, hb⟩
          have HH := Lib.hid (HS0.out.below hb)
          clear hb c0 c1 c2 c3
          have c0 := HH.out.c0
          go_wp2_with fail
          refine (end_c HGY.out _).mono ?_
          rintro r w2 ⟨rfl, rfl⟩
          clear c0
          go_wp2
          go_round
          case rel => exact ⟨k + 1, by have := HKB.out; omega, by rw [HSK.out, HS.out], by go_num, HH.out.rc, HH.out.bel⟩
          case measure => simp [intOf]; have := HKB.out; omega
    · have hlt' : ¬ (k : Int) < (X.length : Int) := by omega
      obtain rfl : k = X.length := by omega
      go_wp2
      go_ret
      exact ⟨by unfold src; rw [cs_len]; rfl, HB.out⟩
/-- both boxes, the map that is gone through, and all that lay there. -/
structure Ov (w : World) (x y : Co) (W : World) : Prop where
  x0 : W.cell? ⟨w.heap.size, 0, none⟩ = some (.complex .f64 (cr x.c) (ci x.c))
  x1 : W.cell? ⟨w.heap.size, 1, none⟩ = some (.bool x.c.com)
  x2 : W.cell? ⟨w.heap.size, 2, none⟩ = some (.map (some x.rb))
  x3 : W.cell? ⟨w.heap.size, 3, none⟩ = some (.map (some x.wb))
  y0 : W.cell? ⟨w.heap.size + 1, 0, none⟩ = some (.complex .f64 (cr y.c) (ci y.c))
  y1 : W.cell? ⟨w.heap.size + 1, 1, none⟩ = some (.bool y.c.com)
  y2 : W.cell? ⟨w.heap.size + 1, 2, none⟩ = some (.map (some y.rb))
  y3 : W.cell? ⟨w.heap.size + 1, 3, none⟩ = some (.map (some y.wb))
  bel : Below w.heap.size w W
theorem Ov.below {w W W' : World} {x y : Co} (h : Ov w x y W) (hb : Below W.heap.size W W') : Ov w x y W' :=
  ⟨(hb.cell (Rn.cell_lt h.x0)).trans h.x0, (hb.cell (Rn.cell_lt h.x1)).trans h.x1, (hb.cell (Rn.cell_lt h.x2)).trans h.x2, (hb.cell (Rn.cell_lt h.x3)).trans h.x3, (hb.cell (Rn.cell_lt h.y0)).trans h.y0, (hb.cell (Rn.cell_lt h.y1)).trans h.y1, (hb.cell (Rn.cell_lt h.y2)).trans h.y2, (hb.cell (Rn.cell_lt h.y3)).trans h.y3, h.bel.trans (hb.mono h.bel.size)⟩
theorem Ov.drew {w W : World} {x y : Co} (h : Ov w x y W) : Ov w x y W.drew := h.below (Below.refl _ _).drew
theorem Ov.new (w : World) (x y : Co) : Ov w x y ((w.alloc (.cells (coA x) 82)).alloc (.cells (coA y) 82)) := by
  have h1 := heap_alloc2_old w (.cells (coA x) 82) (.cells (coA y) 82)
  have h2 := heap_alloc2_new w (.cells (coA x) 82) (.cells (coA y) 82)
  exact ⟨cell_of_row _ _ 0 _ _ _ h1, cell_of_row _ _ 1 _ _ _ h1, cell_of_row _ _ 2 _ _ _ h1, cell_of_row _ _ 3 _ _ _ h1, cell_of_row _ _ 0 _ _ _ h2, cell_of_row _ _ 1 _ _ _ h2, cell_of_row _ _ 2 _ _ _ h2, cell_of_row _ _ 3 _ _ _ h2, (Rn.below_new _ _).alloc (by simp) _⟩
/-- what the range has met so far is written by neither of both, or not by both. -/
def OvRel (w : World) (x y : Co) (r : Nat) (wr : World) : Prop := ∃ lf cnt, NR wr x.wb r 2000 x.c.wr lf cnt ∧ (∀ v, lf v = true → (x.c.wr v).isSome = true) ∧ (∀ v, (x.c.wr v).isSome = true → lf v = false → ¬ (left x.c v = true ∧ left y.c v = true)) ∧ Ov w x y wr
set_option maxRecDepth 100000 in
set_option maxHeartbeats 8000000 in
theorem overwrites_any (x y : Co) (w : World) (hx : Gc x.c) (hy : Gc y.c) (mx : ∃ sz, NM w x.wb 2000 sz x.c.wr) (my : ∃ sz, NM w y.wb 2000 sz y.c.wr) (hf : ∀ v k, x.c.wr v = some k → 0 ≤ v ∧ v < 64) :
    Calls Try.prog 44 #[.agg (coA x), .agg (coA y)] w fun r w' => ∃ b, r = .returned (.bool b) ∧ (b = true ↔ OvW x.c y.c) ∧ Below w.heap.size w w' := by
  have HGX := Lib.hid hx
  have HGY := Lib.hid hy
  have HMX := Lib.hid mx
  have HMY := Lib.hid my
  have HF := Lib.hid hf
  have HO := Lib.hid (Ov.new w x y)
  clear hx hy mx my hf
  unfold coA at HO ⊢
  by_cases hle : x.c.e ≤ y.c.e
  · have HLE := Lib.hid hle
    have HNO := Lib.hid (show (false = true ↔ OvW x.c y.c) from ⟨(fun h => by cases h), fun h => by have := h.1; omega⟩)
    clear hle
    go_enter Try.func44, Try.ntmps44
    go_wp2
    generalize (w.alloc (.cells #[.complex .f64 (cr x.c) (ci x.c), .bool x.c.com, .map (some x.rb), .map (some x.wb)] 82)).alloc (.cells #[.complex .f64 (cr y.c) (ci y.c), .bool y.c.com, .map (some y.rb), .map (some y.wb)] 82) = W0 at HO ⊢
    refine wp_region_noPanic ?_
    refine region_z 7 (fun W => Ov w x y W) 7 1000 rfl (by kernel_rfl) (by exact HO.out.drew) (fun hHeld => ?_)
    refine take_d [1, 2, 5, 6] 0 6 (.pointer (some ⟨w.heap.size, 0, none⟩)) rfl rfl (by kernel_rfl) (by kernel_rfl) (by kernel_rfl) (by kernel_rfl) (fun _ _ _ h => h) (Or.inl ⟨by rfl, by intro W hW; clear hW; go_simp⟩) hHeld ?_
    simp only [put_laws]
    refine take_d [2, 5, 6] 1 7 (.complex .f64 (cr x.c) (ci x.c)) rfl rfl (by kernel_rfl) (by kernel_rfl) (by kernel_rfl) (by kernel_rfl) (fun _ _ _ h => h) (Or.inl ⟨by rfl, by intro W hW; have c := hW.x0; clear hW; go_simp⟩) hHeld ?_
    simp only [put_laws]
    refine take_d [4, 5, 6] 3 9 (.pointer (some ⟨w.heap.size + 1, 0, none⟩)) rfl rfl (by kernel_rfl) (by kernel_rfl) (by kernel_rfl) (by kernel_rfl) (fun _ _ _ h => h) (Or.inl ⟨by rfl, by intro W hW; clear hW; go_simp⟩) hHeld ?_
    simp only [put_laws]
    refine take_d [5, 6] 4 10 (.complex .f64 (cr y.c) (ci y.c)) rfl rfl (by kernel_rfl) (by kernel_rfl) (by kernel_rfl) (by kernel_rfl) (fun _ _ _ h => h) (Or.inl ⟨by rfl, by intro W hW; have c := hW.y0; clear hW; go_simp⟩) hHeld ?_
    simp only [put_laws]
    refine anyZ_ready (rs := [2]) (by kernel_rfl) (by simp) ?_
    refine AllZ.cons rfl (fun K hK => ?_) AllZ.nil
    go_simp
    refine (end_c HGX.out _).mono ?_
    rintro e w2 ⟨rfl, rfl⟩
    try go_simp
    have hPrev := hHeld
    have hHeld := hPrev
    clear hPrev
    refine hK.out _ _ hHeld (fun hHeld => ?_)
    clear hK K
    refine anyZ_ready (rs := [5]) (by kernel_rfl) (by simp) ?_
    refine AllZ.cons rfl (fun K hK => ?_) AllZ.nil
    go_simp
    refine (end_c HGY.out _).mono ?_
    rintro e w2 ⟨rfl, rfl⟩
    try go_simp
    have hPrev := hHeld
    have hHeld := hPrev
    clear hPrev
    refine hK.out _ _ hHeld (fun hHeld => ?_)
    clear hK K
    refine take_d [] 6 12 (.bool true) rfl rfl (by kernel_rfl) (by kernel_rfl) (by kernel_rfl) (by kernel_rfl) (fun _ _ _ h => h) (Or.inl ⟨by rfl, by intro W hW; have hq := HLE.out; clear hW; go_simp⟩) hHeld ?_
    simp only [put_laws]
    refine anyZ_done (by kernel_rfl) ?_ _
    refine NoPanic.normal ?_
    have HH := Lib.hid hHeld
    clear hHeld
    go_wp2
    go_ret
    exact ⟨_, rfl, HNO.out, HH.out.bel⟩
  · have HLE := Lib.hid (show y.c.e < x.c.e from by omega)
    clear hle
    go_enter Try.func44, Try.ntmps44
    go_wp2
    generalize (w.alloc (.cells #[.complex .f64 (cr x.c) (ci x.c), .bool x.c.com, .map (some x.rb), .map (some x.wb)] 82)).alloc (.cells #[.complex .f64 (cr y.c) (ci y.c), .bool y.c.com, .map (some y.rb), .map (some y.wb)] 82) = W0 at HO ⊢
    refine wp_region_noPanic ?_
    refine region_z 7 (fun W => Ov w x y W) 7 1000 rfl (by kernel_rfl) (by exact HO.out.drew) (fun hHeld => ?_)
    refine take_d [1, 2, 5, 6] 0 6 (.pointer (some ⟨w.heap.size, 0, none⟩)) rfl rfl (by kernel_rfl) (by kernel_rfl) (by kernel_rfl) (by kernel_rfl) (fun _ _ _ h => h) (Or.inl ⟨by rfl, by intro W hW; clear hW; go_simp⟩) hHeld ?_
    simp only [put_laws]
    refine take_d [2, 5, 6] 1 7 (.complex .f64 (cr x.c) (ci x.c)) rfl rfl (by kernel_rfl) (by kernel_rfl) (by kernel_rfl) (by kernel_rfl) (fun _ _ _ h => h) (Or.inl ⟨by rfl, by intro W hW; have c := hW.x0; clear hW; go_simp⟩) hHeld ?_
    simp only [put_laws]
    refine take_d [4, 5, 6] 3 9 (.pointer (some ⟨w.heap.size + 1, 0, none⟩)) rfl rfl (by kernel_rfl) (by kernel_rfl) (by kernel_rfl) (by kernel_rfl) (fun _ _ _ h => h) (Or.inl ⟨by rfl, by intro W hW; clear hW; go_simp⟩) hHeld ?_
    simp only [put_laws]
    refine take_d [5, 6] 4 10 (.complex .f64 (cr y.c) (ci y.c)) rfl rfl (by kernel_rfl) (by kernel_rfl) (by kernel_rfl) (by kernel_rfl) (fun _ _ _ h => h) (Or.inl ⟨by rfl, by intro W hW; have c := hW.y0; clear hW; go_simp⟩) hHeld ?_
    simp only [put_laws]
    refine anyZ_ready (rs := [2]) (by kernel_rfl) (by simp) ?_
    refine AllZ.cons rfl (fun K hK => ?_) AllZ.nil
    go_simp
    refine (end_c HGX.out _).mono ?_
    rintro e w2 ⟨rfl, rfl⟩
    try go_simp
    have hPrev := hHeld
    have hHeld := hPrev
    clear hPrev
    refine hK.out _ _ hHeld (fun hHeld => ?_)
    clear hK K
    refine anyZ_ready (rs := [5]) (by kernel_rfl) (by simp) ?_
    refine AllZ.cons rfl (fun K hK => ?_) AllZ.nil
    go_simp
    refine (end_c HGY.out _).mono ?_
    rintro e w2 ⟨rfl, rfl⟩
    try go_simp
    have hPrev := hHeld
    have hHeld := hPrev
    clear hPrev
    refine hK.out _ _ hHeld (fun hHeld => ?_)
    clear hK K
    refine take_d [] 6 12 (.bool false) rfl rfl (by kernel_rfl) (by kernel_rfl) (by kernel_rfl) (by kernel_rfl) (fun _ _ _ h => h) (Or.inl ⟨by rfl, by intro W hW; have hq := HLE.out; clear hW; go_simp⟩) hHeld ?_
    simp only [put_laws]
    refine anyZ_done (by kernel_rfl) ?_ _
    refine NoPanic.normal ?_
    have HH := Lib.hid hHeld
    clear hHeld
    generalize W0.drew = W9 at HH ⊢
    obtain ⟨sz, hm⟩ := HMX.out
    have x3 := HH.out.x3
    go_wp2_with (at_range; refine wpList_rangeM rfl _ rfl x.wb 2000 sz x.c.wr rfl (hm.keep HH.out.bel hm.lt) ?_; intro w3 cnt0 hr3 hb3 hs3)
    have HR3 := Lib.hid hr3
    have HH3 := Lib.hid (HH.out.below hb3)
    have HRL := Lib.hid (show w.heap.size ≤ W9.heap.size from HH.out.bel.size)
    clear hr3 hb3 hs3 x3 hm
    go_frame
    go_loopw [5] (fun _ wr => OvRel w x y W9.heap.size wr) (fun _ wr => wr.rangeLeft x.wb W9.heap.size)
    case atStart => exact ⟨_, _, HR3.out, fun v h => h, (fun v h1 h2 => by rw [h1] at h2; cases h2), HH3.out⟩
    case round =>
      obtain ⟨lf, cnt, hnr, hlf, hno, hov⟩ := hrel
      have HNR := Lib.hid hnr
      have HLF := Lib.hid hlf
      have HNO := Lib.hid hno
      have HOV := Lib.hid hov
      clear hnr hlf hno hov
      go_wp2_with (at_next; refine wpList_nextM rfl _ rfl x.wb W9.heap.size 2000 x.c.wr lf cnt rfl HNR.out HLF.out ?_ ?_)
      · intro hl0
        have HNN := Lib.hid (show (false = true ↔ OvW x.c y.c) from ⟨(fun h => by cases h), fun ⟨_, v, h1, h2⟩ => absurd ⟨h1, h2⟩ (HNO.out v (by unfold left at h1; simp at h1; exact h1.2) (hl0 v))⟩)
        clear hl0
        go_wp2
        go_ret
        exact ⟨_, rfl, HNN.out, HOV.out.bel⟩
      · intro v kk w4 cnt1 hlx hfx hr4 hlt4 hg4 hs4 hen
        have hv := HF.out v kk hfx
        have HV := Lib.hid (show i64p v from ⟨by omega, by omega⟩)
        have HB4 := Lib.hid (show Below w.heap.size wr w4 from (Below.refl _ _).grown hg4 HOV.out.bel.size (fun k hk => by have := Option.some.inj hk; have := HRL.out; omega))
        have HWB := Lib.hid (HOV.out.bel.trans HB4.out)
        have HX4 := Lib.hid (show Ov w x y w4 from by
          have hr := HNR.out.lt.1
          have hk : ∀ (q i : Nat) (u : Value), q < W9.heap.size → wr.cell? ⟨q, i, none⟩ = some u → w4.cell? ⟨q, i, none⟩ = some u := fun q i u hq hu =>
            (World.cell?_of_block (w := wr) (a := ⟨q, i, none⟩) (hg4.block q (Rn.cell_lt hu) (fun e => by have := Option.some.inj e; omega))).trans hu
          have q0 : w.heap.size < W9.heap.size := Rn.cell_lt HH.out.x0
          have q1 : w.heap.size + 1 < W9.heap.size := Rn.cell_lt HH.out.y0
          have h := HOV.out
          exact ⟨hk _ _ _ q0 h.x0, hk _ _ _ q0 h.x1, hk _ _ _ q0 h.x2, hk _ _ _ q0 h.x3, hk _ _ _ q1 h.y0, hk _ _ _ q1 h.y1, hk _ _ _ q1 h.y2, hk _ _ _ q1 h.y3, HWB.out⟩)
        have HM4 := Lib.hid (show ∃ sz, NM w4 x.wb 2000 sz x.c.wr from hr4.map)
        have HR4 := Lib.hid hr4
        have HLTT := Lib.hid hlt4
        have HLF4 := Lib.hid (show ∀ z, (lf z && !decide (z = v)) = true → (x.c.wr z).isSome = true from fun z hz => HLF.out z (by simp at hz; exact hz.1))
        have HFX := Lib.hid hfx
        clear hlx hfx hr4 hlt4 hg4 hs4 hv
        have x0 := HX4.out.x0
        have x1 := HX4.out.x1
        have x2 := HX4.out.x2
        have x3 := HX4.out.x3
        cases h1 : left x.c v with
        | true =>
          have HL1 := Lib.hid h1
          clear h1
          go_wp2_with fail
          refine (left_val x v _ HV.out HM4.out HL1.out).mono ?_
          rintro r w5 ⟨rfl, hb5⟩
          have HX5 := Lib.hid (HX4.out.below hb5)
          have HR5 := Lib.hid (HR4.out.below hb5)
          have HMY5 := Lib.hid (show ∃ sz, NM w5 y.wb 2000 sz y.c.wr from by
            obtain ⟨sz, hm⟩ := HMY.out
            exact ⟨sz, hm.keep HX5.out.bel hm.lt⟩)
          clear hb5 x0 x1 x2 x3
          have y0 := HX5.out.y0
          have y1 := HX5.out.y1
          have y2 := HX5.out.y2
          have y3 := HX5.out.y3
          cases h2 : left y.c v with
          | true =>
            have HL2 := Lib.hid h2
            have HYES := Lib.hid (show (true = true ↔ OvW x.c y.c) from ⟨fun _ => ⟨HLE.out, v, HL1.out, h2⟩, fun _ => rfl⟩)
            clear h2
            go_wp2_with fail
            refine (left_val y v _ HV.out HMY5.out HL2.out).mono ?_
            rintro r w6 ⟨rfl, hb6⟩
            have HX6 := Lib.hid (HX5.out.below hb6)
            clear hb6 y0 y1 y2 y3
            go_wp2
            go_ret
            exact ⟨_, rfl, by have := HYES.out; simpa using this, HX6.out.bel⟩
          | false =>
            have HL2 := Lib.hid h2
            have HN5 := Lib.hid (show ∀ z, (x.c.wr z).isSome = true → (lf z && !decide (z = v)) = false → ¬ (left x.c z = true ∧ left y.c z = true) from fun z hz hl => by
              by_cases e : z = v
              · subst e; intro h; rw [h2] at h; cases h.2
              · exact HNO.out z hz (by simpa [e] using hl))
            clear h2
            go_wp2_with fail
            refine (left_val y v _ HV.out HMY5.out HL2.out).mono ?_
            rintro r w6 ⟨rfl, hb6⟩
            have HX6 := Lib.hid (HX5.out.below hb6)
            have HR6 := Lib.hid (HR5.out.below hb6)
            clear hb6 y0 y1 y2 y3
            go_wp2
            go_roundw
            case rel => exact ⟨_, _, HR6.out, HLF4.out, HN5.out, HX6.out⟩
            case measure =>
              rw [HR6.out.left_eq, HNR.out.left_eq]; exact HLTT.out
        | false =>
          have HL1 := Lib.hid h1
          have HN5 := Lib.hid (show ∀ z, (x.c.wr z).isSome = true → (lf z && !decide (z = v)) = false → ¬ (left x.c z = true ∧ left y.c z = true) from fun z hz hl => by
            by_cases e : z = v
            · subst e; intro h; rw [h1] at h; cases h.1
            · exact HNO.out z hz (by simpa [e] using hl))
          clear h1
          go_wp2_with fail
          refine (left_val x v _ HV.out HM4.out HL1.out).mono ?_
          rintro r w5 ⟨rfl, hb5⟩
          have HX5 := Lib.hid (HX4.out.below hb5)
          have HR5 := Lib.hid (HR4.out.below hb5)
          clear hb5 x0 x1 x2 x3
          go_wp2
          go_roundw
          case rel => exact ⟨_, _, HR5.out, HLF4.out, HN5.out, HX5.out⟩
          case measure =>
            rw [HR5.out.left_eq, HNR.out.left_eq]; exact HLTT.out
end Go.Proofs.Ytcfdndppkpjleaa.Hi
