/-
  The walk of GraphLegal.
-/
import Derived.Test.YtkghpecimjmjfaaGreatDoorGraphRefuses
namespace Go.Proofs.YtkghpecimjmjfaaGreatDoor.En
open Go.RowKit
attribute [local go_sem ↓] Go.wp_at_zero Go.wp_at_succ
theorem build_one (w : World) : (Instr.build 62 #[(0, .int .i64 1)]).run Tryz.prog w = .ok (.agg #[.int .i64 1, .int .i64 0]) w := by
  have hz := (zero_of_info val_info0).1
  have h2 := fun w => sz w (show (Tryz.prog.info? 2).map (·.size) = some 1 by kernel_rfl)
  have h3 := fun w => sz w inf_int
  unfold Instr.build
  simp only [Sem.run_bind, hz, run_underlying Tryz.underlying62, Result.andThen_ok]
  simp [h2, h3, Instr.fill, Value.cells]
/-- values, of which the first so many are nought. -/
def onesTo (n k : Nat) : List (Int × Int) := List.replicate k (1, 0) ++ List.replicate (n - k) (0, 0)
theorem onesTo_at {n k : Nat} (h : k < n) : (onesTo n k)[k]? = some (0, 0) := by
  unfold onesTo
  rw [List.getElem?_append_right (by simp), List.length_replicate, Nat.sub_self, List.getElem?_replicate, if_pos (by omega)]
theorem onesTo_set {n k : Nat} (h : k < n) : (onesTo n k).set k (1, 0) = onesTo n (k + 1) := by
  unfold onesTo
  have e : n - k = (n - (k + 1)) + 1 := by omega
  rw [List.set_append_right _ _ (by simp), List.length_replicate, Nat.sub_self, e, List.replicate_succ, List.set_cons_zero, List.replicate_succ', List.append_assoc]
  rfl
theorem onesTo_all (n : Nat) : onesTo n n = start n := by unfold onesTo start; simp
def OnRel (n m : Nat) (w : World) (i : Value) (wr : World) : Prop := ∃ k : Nat, k ≤ n ∧ i = .int .i64 k ∧ Sx.ValsAt wr w.heap.size m n (onesTo n k) ∧ Below w.heap.size w wr
/-- the values of now in their row; all else since is as it was. -/
structure LgSt (w2 W0 : World) (n m : Nat) (now : Now) (wr : World) : Prop where
  va : Sx.ValsAt wr m m n now
  kp : Kp (fun q => q = m) W0 wr
  bel : Below w2.heap.size w2 wr
section
variable {w2 W0 W W' : World} {n m : Nat} {now : Now}
theorem LgSt.below (h : LgSt w2 W0 n m now W) (hb : Below W.heap.size W W') : LgSt w2 W0 n m now W' := ⟨h.va.below hb (Nat.le_refl _), h.kp.below hb, h.bel.trans (hb.mono h.bel.size)⟩
theorem LgSt.put (h : LgSt w2 W0 n m now W) (hm : w2.heap.size ≤ m) {x : Nat} {u v : Int × Int} (hx : now[x]? = some u) : LgSt w2 W0 n m (now.set x v) ((W.setCell ⟨m, x * 2, none⟩ (.int .i64 v.1)).setCell ⟨m, x * 2 + 1, none⟩ (.int .i64 v.2)) := by
  have hl := (List.getElem?_eq_some_iff.1 hx).1
  have h1 := h.va.put hx (v' := (v.1, u.2)) 0 (by decide) (.int .i64 v.1) rfl
  have h2 := h1.put (j := x) (v := (v.1, u.2)) (v' := v) (List.getElem?_set_self hl) 1 (by decide) (.int .i64 v.2) rfl
  rw [List.set_set] at h2
  exact ⟨h2, (h.kp.setCell (p := ⟨m, x * 2, none⟩) (.inl rfl) _).setCell (p := ⟨m, x * 2 + 1, none⟩) (.inl rfl) _, (h.bel.setCell (p := ⟨m, x * 2, none⟩) hm _).setCell (p := ⟨m, x * 2 + 1, none⟩) hm _⟩
end
/-- what is known of the entries in the row. -/
structure Row (W0 : World) (n m base : Nat) (v : Value) (X : List Xe) : Prop where
  own : OwnX W0 base v X
  mb : m < base
  ent : ∀ x ∈ X, EntAt (fun k => k < base) W0 x
  ok : ∀ x ∈ X, EntOk n x.1
def LgRel (w2 W0 : World) (n m : Nat) (E : List Ent) (out : Now) (i : Value) (wr : World) : Prop :=
  ∃ (k : Nat) (now : Now), k ≤ E.length ∧ i = .int .i64 k ∧ now.length = n ∧ LgSt w2 W0 n m now wr ∧ Rep now (E.drop k) out
def LrRel (w2 W0 : World) (n m : Nat) (now : Now) (L y : Nat) (cs : Array Value) (i : Value) (wr : World) : Prop :=
  ∃ j : Nat, j ≤ L ∧ i = .int .i64 j ∧ LgSt w2 W0 n m now wr ∧ Tx.Blk wr y cs 69
def LwRel (w2 W0 : World) (n m : Nat) (now : Now) (ws : List Tx.Sp) (y : Nat) (cs : Array Value) (i : Value) (wr : World) : Prop :=
  ∃ j : Nat, j ≤ ws.length ∧ i = .int .i64 j ∧ LgSt w2 W0 n m (sets now (ws.take j)) wr ∧ Tx.Blk wr y cs 69
def LvRel (w2 W0 : World) (n m : Nat) (now L : Now) (base q : Nat) (i : Value) (wr : World) : Prop :=
  ∃ z : Nat, z ≤ n ∧ i = .int .i64 z ∧ LgSt w2 W0 n m now wr ∧ Sx.ValsAt wr base q n L
theorem sets_len : ∀ (l : List Tx.Sp) (now : Now), (sets now l).length = now.length
  | [], _ => rfl
  | w :: l, now => by show (sets (now.set w.x.toNat (w.k, w.n)) l).length = _; rw [sets_len l, List.length_set]
theorem sets_snoc {ws : List Tx.Sp} {j : Nat} {s : Tx.Sp} (h : ws[j]? = some s) (now : Now) : sets now (ws.take (j + 1)) = (sets now (ws.take j)).set s.x.toNat (s.k, s.n) := by
  unfold sets
  rw [St.take_step h, List.foldl_append]; rfl
theorem row_cell {W0 wr : World} {n m base : Nat} {v : Value} {X : List Xe} (h : Row W0 n m base v X) (hk : Kp (fun q => q = m) W0 wr) {j : Nat} {x : Xe} (hx : X[j]? = some x) : ∃ q c, v = .slice (some ⟨q, 0, none⟩) X.length c ∧ wr.cell? ⟨q, j * 5, none⟩ = some (.int .i64 x.1.id) ∧ wr.cell? ⟨q, j * 5 + 1, none⟩ = some (.bool x.1.com) ∧ wr.cell? ⟨q, j * 5 + 2, none⟩ = some (.bool x.1.ovr) ∧ wr.cell? ⟨q, j * 5 + 3, none⟩ = some x.2.1 ∧ wr.cell? ⟨q, j * 5 + 4, none⟩ = some x.2.2 :=
  xs_cell h.own ⟨hk.size, fun k e => hk.block k (World.ownsRow.lt h.own k e).2 (fun e2 => by have := (World.ownsRow.lt h.own k e).1; have := h.mb; omega)⟩ hx
set_option maxHeartbeats 8000000 in
set_option maxRecDepth 100000 in
theorem graphLegal_walk (s v : Nat) (A : Option Addr) (N c : Nat) (l : Nat → Act) (w : World) (hs : s < 256) (hv : v < 256) (hl : ActsAt w A N c l) (hT : TabAt w) :
    Calls Tryz.prog 4 #[.int .u8 (s : Nat), .int .u8 (v : Nat), .slice A N c] w fun e w' => e = .returned (.bool true) ∧ Below w.heap.size w w' := by
  have HT := Lib.hid hT
  have HL := Lib.hid hl
  have hn : (N : Int) ≤ 9223372036854775807 := by have := hl.1; have := hl.2.1; unfold maxLen at this; omega
  have hbo := build_one
  have hz2 := (zero_of_info val_info0).1
  obtain ⟨i0, hi, hz0, hz1, hz3⟩ := info_parts (show (Tryz.prog.info? 62).map (fun i => (i.zero, i.size, i.bytes)) = some (some (.agg #[.int .i64 0, .int .i64 0]), 2, 16) by kernel_rfl)
  clear hT hl
  go_enter Tryz.func4, Tryz.ntmps4
  go_wp2_with fail
  refine (alive_any w HT.out).mono ?_
  rintro e w1 ⟨rfl, hb1⟩
  have B1 := Lib.hid hb1
  clear hb1
  by_cases hbig : 150 < N
  · have hbig' : (150 : Int) < (N : Int) := by omega
    go_wp2
    go_ret
    exact ⟨rfl, B1.out⟩
  have hbig' : ¬ (150 : Int) < (N : Int) := by omega
  have hN150 : N ≤ 150 := by omega
  go_wp2_with fail
  refine (run_any s v A N c l w1 hs hv (acts_since HL.out B1.out) hN150 (HT.out.below B1.out HT.out.lt)).mono ?_
  rintro e w2 ⟨b, rfl, hl2⟩
  have HR := Lib.hid (runE_is (n := 1 + ((s % 32 : Nat) : Int)) (v := 1 + ((v % 9 : Nat) : Int)) (l := l) (N := N) ⟨by omega, by omega⟩ ⟨by omega, by omega⟩ (by omega) (fun i hi => (HL.out.at_ hi).choose_spec.2.1) N (Nat.le_refl _))
  generalize runE (1 + ((s % 32 : Nat) : Int)) (1 + ((v % 9 : Nat) : Int)) l N = g at *
  have H2 := Lib.hid (Live.since B1.out hl2)
  clear hl2
  go_wp2_with fail
  refine (values_live H2.out (by omega)).mono ?_
  rintro e w3 ⟨q3, rfl, hv3, hb3⟩
  generalize hnn : g.s.length = n at *
  have HNN := Lib.hid hnn
  have HN64 := Lib.hid (show n ≤ 64 by rw [← hnn]; exact HR.out.inv.len)
  have hn64 := HN64.out
  have HB3 := Lib.hid hb3
  have hmk := fun W => run_make (P := Tryz.prog) W 60 62 i0 _ Tryz.underlying60 hi hz0 .i64 .i64 (n : Nat) (n : Nat) (by omega) (by omega) (by rw [hz3]; omega) (by omega)
  simp only [Int.toNat_natCast, hz1, Value.cells] at hmk
  have HO := Lib.hid (show Sx.ValsAt (w3.alloc (.cells (madeCells #[.int .i64 0, .int .i64 0] (n * 2)) 62)) w3.heap.size w3.heap.size n (List.replicate n (0, 0)) from
    ⟨by rw [← Sx.pmade_flat]; exact World.ownsRow_lit w3 _ _ (Nat.le_refl _) (by unfold maxLen; omega) (size_madeCells _ _), by simp⟩)
  have HBO := Lib.hid (Tx.below_new w3 (.cells (madeCells #[.int .i64 0, .int .i64 0] (n * 2)) 62))
  clear hv3 hb3 hi hz0 hz1 hz3 hnn
  go_wp2
  go_loopw [35] (OnRel n w3.heap.size w3) (fun i _ => n - (intOf i).toNat)
  case atStart => exact ⟨0, Nat.zero_le _, rfl, by unfold onesTo; simpa using HO.out, HBO.out⟩
  case round =>
    obtain ⟨k, hk, rfl, hva, hbl⟩ := hrel
    have HV := Lib.hid hva
    have HBL := Lib.hid hbl
    clear hva hbl hmk
    by_cases hlt : k < n
    · have hv0 := onesTo_at hlt
      have c0 := HV.out.get0 hv0
      have c1 := HV.out.get1 hv0
      have f := HV.out.free
      have ho2 := (HV.out.put hv0 (v' := (1, 0)) 0 (by decide) (.int .i64 1) rfl).put (j := k) (List.getElem?_set_self (by rw [HV.out.len]; exact hlt)) (v' := (1, 0)) 1 (by decide) (.int .i64 0) rfl
      rw [List.set_set, onesTo_set hlt] at ho2
      have HO2 := Lib.hid ho2
      have HB2 := Lib.hid ((HBL.out.setCell (p := ⟨w3.heap.size, k * 2, none⟩) (Nat.le_refl _) (.int .i64 1)).setCell (p := ⟨w3.heap.size, k * 2 + 1, none⟩) (Nat.le_refl _) (.int .i64 0))
      have hlt' : (k : Int) < (n : Int) := by omega
      clear hv0 ho2
      go_wp2
      exact ⟨⟨k + 1, by omega, by go_num, HO2.out, HB2.out⟩, by simp [intOf]; omega⟩
    · obtain rfl : k = n := by omega
      have HV2 := Lib.hid (show Sx.ValsAt wr w3.heap.size w3.heap.size k (start k) by have := HV.out; rwa [onesTo_all] at this)
      have HB4 := Lib.hid (HB3.out.trans (HBL.out.mono HB3.out.size))
      have H4 := Lib.hid (H2.out.below HB4.out)
      clear HV HBL
      go_wp2_with fail
      refine (log_live H4.out (by omega)).mono ?_
      rintro e w5 ⟨v5, rfl, ht5, hb5⟩
      obtain ⟨X5, ho5, hX5, he5⟩ := ht5.ex
      have HO5 := Lib.hid ho5
      have HX5 := Lib.hid hX5
      have HE5 := Lib.hid he5
      have HB5 := Lib.hid hb5
      have H5 := Lib.hid (H4.out.below hb5)
      clear ht5 ho5 hX5 he5 hb5
      go_wp2_with fail
      refine (rest_live H5.out (by omega) HT.out).mono ?_
      rintro e w6 ⟨v6, rfl, ht6, hb6⟩
      obtain ⟨X6, ho6, hX6, he6⟩ := ht6.ex
      obtain ⟨A6, c6, rfl, hx6, _⟩ := ho6.slice
      have HX6 := Lib.hid hX6
      have HE6 := Lib.hid he6
      have HB6 := Lib.hid hb6
      have HXS6 := Lib.hid hx6
      have HO56 := Lib.hid (HO5.out.below hb6 (Nat.le_refl _))
      have HXL := Lib.hid (show X5.length + X6.length ≤ 150 from by
        have h1 := HR.out.inv.log
        have h2 := HR.out.inv.cnt
        have h3 := rest_len HR.out.inv.ps
        have h4 := congrArg List.length HX5.out
        have h5 := congrArg List.length hX6
        rw [List.length_map] at h4 h5
        omega)
      clear ht6 ho6 hX6 he6 hb6 hx6
      go_wp2_with (at_builtin; refine append_ents rfl _ _ rfl rfl HO56.out _ _ X6 rfl rfl HXS6.out (flatE_one HE6.out) ?c1 ?c2 ?_)
      case c1 => have := HXL.out; omega
      case c2 => have h1 := HB5.out.size; have h2 := HB6.out.size; omega
      intro v7 w7 ho7 hg7
      have HMB := Lib.hid (show w3.heap.size < wr.heap.size from HV2.out.ge.2)
      have HB7 := Lib.hid (grown_below HO56.out hg7 (Nat.le_trans HB5.out.size HB6.out.size))
      have HRW := Lib.hid (show Row w7 k w3.heap.size wr.heap.size v7 (X5 ++ X6) from by
        have hk7 : Kp (fun q => v5.ownBlock = some q) w6 w7 := (Kp.refl _ w6).grown hg7 (fun q e => .inl e)
        refine ⟨ho7, HMB.out, fun x hx => ?_, fun x hx => ?_⟩
        · rcases List.mem_append.1 hx with hx | hx
          · have h1 := (HE5.out x hx).kp (Kp.of_below HB6.out)
            exact (h1.kp ⟨hk7.os, hk7.tape, hk7.output, hk7.size, fun q hq hn => hk7.block q hq (fun e => hn (.inl e))⟩).foot (fun q _ e => .inr e)
          · have h1 := HE6.out x hx
            exact (h1.kp ⟨hk7.os, hk7.tape, hk7.output, hk7.size, fun q hq hn => hk7.block q hq (fun e => hn (.inr (World.ownsRow.lt HO5.out q e).2))⟩).foot (fun q _ e => .inr (by have := HB5.out.size; omega))
        · rcases List.mem_append.1 hx with hx | hx
          · have h1 : x.1 ∈ g.log := by rw [← HX5.out]; exact List.mem_map.2 ⟨x, hx, rfl⟩
            have h2 := (HR.out.inv.ent _ h1).1
            rw [HNN.out] at h2
            exact h2
          · have h1 : x.1 ∈ rest g := by rw [← HX6.out]; exact List.mem_map.2 ⟨x, hx, rfl⟩
            obtain ⟨i, hi, e⟩ := List.mem_map.1 h1
            rw [← e, ← HNN.out]
            exact HR.out.inv.entry (((slots_lin HR.out.inv.ps).mem i).1 hi))
      have HS7 := Lib.hid (show LgSt w2 w7 k w3.heap.size (start k) w7 from by
        have h6 := (HV2.out.below HB5.out (Nat.le_refl _)).below HB6.out (Nat.le_refl _)
        refine ⟨⟨row_other h6.row (fun q e => ?_), h6.len⟩, Kp.refl _ _, ?_⟩
        · have e : w3.heap.size = q := Option.some.inj e
          subst e
          exact HB7.out.block _ HMB.out
        · exact (HB4.out.trans ((HB5.out.trans (HB6.out.mono HB5.out.size)).mono HB4.out.size)).trans (HB7.out.mono HB4.out.size))
      have HMAP := Lib.hid (show (X5 ++ X6).map (·.1) = g.log ++ rest g by rw [List.map_append, HX5.out, HX6.out])
      have HREP := Lib.hid (show Rep (start k) (g.log ++ rest g) (vals g.s) by
        have := HR.out.leg.R _ (slots_lin HR.out.inv.ps)
        rw [HNN.out] at this
        exact this)
      have HXL7 := Lib.hid (show (X5 ++ X6).length ≤ 150 by rw [List.length_append]; exact HXL.out)
      have HM2 := Lib.hid (show w2.heap.size ≤ w3.heap.size from HB3.out.size)
      clear ho7 hg7 HO5 HO56 HE5 HE6 HX5 HX6 HXS6 HXL HV2 H5 H4 HB4 HB5 HB6 HB7
      generalize X5 ++ X6 = X at *
      generalize g.log ++ rest g = E at *
      have HEL := Lib.hid (show X.length = E.length by rw [← HMAP.out, List.length_map])
      obtain ⟨A7, c7, rfl, _, _⟩ := HRW.out.own.slice
      generalize wr.heap.size = bs at *
      go_wp2
      have hxl7 := HXL7.out
      go_loopw [49] (LgRel w2 w7 k w3.heap.size E (vals g.s)) (fun i _ => 1000 - (intOf i).toNat)
      case atStart => exact ⟨0, start k, Nat.zero_le _, rfl, by simp [start], HS7.out, HREP.out⟩
      case round =>
        obtain ⟨j, now, hj, rfl, hnl, hst, hrep⟩ := hrel
        have HST := Lib.hid hst
        have HRP := Lib.hid hrep
        have HNL := Lib.hid hnl
        clear hst hrep hnl
        by_cases hltj : j < X.length
        · have hx := List.getElem?_eq_getElem hltj
          have hmem := List.getElem_mem hltj
          generalize X[j] = x at hx hmem
          have hd : E.drop j = x.1 :: E.drop (j + 1) := by
            have h1 : E[j]? = some x.1 := by rw [← HMAP.out, List.getElem?_map, hx]; rfl
            obtain ⟨h2, h3⟩ := List.getElem?_eq_some_iff.1 h1
            rw [List.drop_eq_getElem_cons h2, h3]
          have hrp := HRP.out
          rw [hd] at hrp
          have HFIT := Lib.hid hrp.1
          have HREP2 := Lib.hid hrp.2
          obtain ⟨q, cq, hq, x0, x1, x2, x3, x4⟩ := row_cell HRW.out HST.out.kp hx
          obtain ⟨hqA, hq1, hq2⟩ := Value.slice.inj hq
          obtain ⟨⟨A1, d1, e3, s3⟩, ⟨A2, d2, e4, s4⟩⟩ := HRW.out.ent _ hmem
          have HOKE := Lib.hid (HRW.out.ok _ hmem)
          subst hqA
          obtain ⟨x, a3, a4⟩ := x
          dsimp only at x0 x1 x2 x3 x4 e3 e4 s3 s4
          subst e3; subst e4
          have hkm : ∀ q : Nat, q = w3.heap.size → q < bs := fun q e => by have := HMB.out; omega
          have HS3 := Lib.hid (show SlF (fun q => q = w3.heap.size) w7 A1 d1 x.rd from s3.foot (fun q _ e => hkm q e))
          have HS4 := Lib.hid (show SlF (fun q => q = w3.heap.size) w7 A2 d2 x.wr from s4.foot (fun q _ e => hkm q e))
          have hltj' : (j : Int) < (X.length : Int) := by omega
          have hrl0 : x.rd.length ≤ 64 := HOKE.out.rl
          have hwl0 : x.wr.length ≤ 64 := HOKE.out.wl
          have hrl : (x.rd.length : Int) ≤ 64 := by omega
          have hwl : (x.wr.length : Int) ≤ 64 := by omega
          clear hx hmem hd hrp hq hq1 hq2 s3 s4 hkm
          have HBX := Lib.hid (Tx.Blk.new wr #[.int .i64 x.id, .bool x.com, .bool x.ovr, .slice A1 x.rd.length d1, .slice A2 x.wr.length d2] 69)
          have HSX := Lib.hid (HST.out.below (Tx.below_new wr (.cells #[.int .i64 x.id, .bool x.com, .bool x.ovr, .slice A1 x.rd.length d1, .slice A2 x.wr.length d2] 69)))
          have y1 := HBX.out.cell 1
          have y3 := HBX.out.cell 3
          have y4 := HBX.out.cell 4
          have HYM := Lib.hid (show w3.heap.size ≠ wr.heap.size from by have := HST.out.va.ge.2; omega)
          simp only [List.getElem?_toArray, List.getElem?_cons_zero, List.getElem?_cons_succ] at y1 y3 y4
          go_wp2
          generalize wr.alloc (.cells #[.int .i64 x.id, .bool x.com, .bool x.ovr, .slice A1 x.rd.length d1, .slice A2 x.wr.length d2] 69) = wX at *
          generalize wr.heap.size = yb at *
          clear x0 x1 x2 x3 x4 y1 y3 y4
          go_loopw [56] (LrRel w2 w7 k w3.heap.size now x.rd.length yb #[.int .i64 x.id, .bool x.com, .bool x.ovr, .slice A1 x.rd.length d1, .slice A2 x.wr.length d2]) (fun i _ => 100 - (intOf i).toNat)
          case atStart => exact ⟨0, Nat.zero_le _, rfl, HSX.out, HBX.out⟩
          case round =>
            obtain ⟨t, ht, rfl, hst, hbx⟩ := hrel
            have HST2 := Lib.hid hst
            have HBX2 := Lib.hid hbx
            clear hst hbx
            by_cases hltt : t < x.rd.length
            · obtain ⟨ad, r, rfl, hr, hrok, h4⟩ := (HS3.out.kp HST2.out.kp).sl.at_.at_ hltt
              have hrm := List.mem_of_getElem? hr
              have hb := (HOKE.out.rd r hrm).1
              have hf := HFIT.out r hrm
              obtain ⟨rx, rk, rn, rw_⟩ := r
              dsimp only at hb hf
              obtain ⟨xx, rfl⟩ := Int.eq_ofNat_of_zero_le hb.1
              rw [Int.toNat_natCast] at hf
              have z0 := h4.c0
              have z1 := h4.c1
              have z2 := h4.c2
              have z3 := h4.c3
              dsimp only at z0 z1 z2 z3
              have HBZ := Lib.hid (Tx.Blk.new wr #[.int .i64 (xx : Nat), .int .i64 rk, .int .i64 rn, .bool rw_] 71)
              have HSZ := Lib.hid (HST2.out.below (Tx.below_new wr (.cells #[.int .i64 (xx : Nat), .int .i64 rk, .int .i64 rn, .bool rw_] 71)))
              have HBXZ := Lib.hid (HBX2.out.below (Tx.below_new wr (.cells #[.int .i64 (xx : Nat), .int .i64 rk, .int .i64 rn, .bool rw_] 71)))
              have hltt' : (t : Int) < (x.rd.length : Int) := by omega
              have hxk : ((xx : Nat) : Int) < (k : Int) := hb.2
              have hge : decide (k ≤ xx) = false := by simp; omega
              have HF := Lib.hid hf
              clear hr hrok h4 hrm hb hf
              go_wp2
              have t0 := HBZ.out.cell 0
              have t1 := HBZ.out.cell 1
              have t2 := HBZ.out.cell 2
              simp only [List.getElem?_toArray, List.getElem?_cons_zero, List.getElem?_cons_succ] at t0 t1 t2
              have n0 := HSZ.out.va.get0 HF.out
              have n1 := HSZ.out.va.get1 HF.out
              clear z0 z1 z2 z3
              generalize wr.alloc (.cells #[.int .i64 (xx : Nat), .int .i64 rk, .int .i64 rn, .bool rw_] 71) = wZ at *
              go_quiet (fail)
              go_wp2
              refine ⟨⟨t + 1, by omega, by go_num, HSZ.out.below (below_drewN (Below.refl _ _) _), HBXZ.out.below (below_drewN (Below.refl _ _) _)⟩, by simp [intOf]; omega⟩
            · have hte : t = x.rd.length := by omega
              have y4 := HBX2.out.cell 4
              simp only [List.getElem?_toArray, List.getElem?_cons_zero, List.getElem?_cons_succ] at y4
              have hltt' : ¬ ((t : Int) < (x.rd.length : Int)) := by omega
              go_wp2
              go_loopw [79] (LwRel w2 w7 k w3.heap.size now x.wr yb #[.int .i64 x.id, .bool x.com, .bool x.ovr, .slice A1 x.rd.length d1, .slice A2 x.wr.length d2]) (fun i _ => 100 - (intOf i).toNat)
              case atStart => exact ⟨0, Nat.zero_le _, rfl, HST2.out, HBX2.out⟩
              case round =>
                obtain ⟨z, hz, rfl, hst, hbx⟩ := hrel
                have HST3 := Lib.hid hst
                have HBX3 := Lib.hid hbx
                clear hst hbx y4
                by_cases hltz : z < x.wr.length
                · obtain ⟨ad, r, rfl, hr, hrok, h4⟩ := (HS4.out.kp HST3.out.kp).sl.at_.at_ hltz
                  have hrm := List.mem_of_getElem? hr
                  have hb := HOKE.out.wr r hrm
                  have HSN := Lib.hid (sets_snoc hr now)
                  obtain ⟨rx, rk, rn, rw_⟩ := r
                  obtain ⟨hb1, _, hcom⟩ := hb
                  dsimp only at hb1 hcom
                  obtain ⟨xx, rfl⟩ := Int.eq_ofNat_of_zero_le hb1.1
                  have hlen : xx < (sets now (x.wr.take z)).length := by rw [sets_len, HNL.out]; have := hb1.2; omega
                  have hnow := List.getElem?_eq_getElem hlen
                  generalize (sets now (x.wr.take z))[xx] = u0 at hnow
                  have HNW := Lib.hid hnow
                  have z0 := h4.c0
                  have z1 := h4.c1
                  have z2 := h4.c2
                  have z3 := h4.c3
                  dsimp only at z0 z1 z2 z3
                  have HBZ := Lib.hid (Tx.Blk.new wr #[.int .i64 (xx : Nat), .int .i64 rk, .int .i64 rn, .bool rw_] 71)
                  have HSZ := Lib.hid (HST3.out.below (Tx.below_new wr (.cells #[.int .i64 (xx : Nat), .int .i64 rk, .int .i64 rn, .bool rw_] 71)))
                  have HBXZ := Lib.hid (HBX3.out.below (Tx.below_new wr (.cells #[.int .i64 (xx : Nat), .int .i64 rk, .int .i64 rn, .bool rw_] 71)))
                  have hltz' : (z : Int) < (x.wr.length : Int) := by omega
                  have hxk : ((xx : Nat) : Int) < (k : Int) := hb1.2
                  have hge : ¬ k ≤ xx := by omega
                  have HNY := Lib.hid (show yb ≠ w3.heap.size from fun e => HYM.out e.symm)
                  rw [hcom] at HBXZ
                  have t0 := HBZ.out.cell 0
                  have t1 := HBZ.out.cell 1
                  have t2 := HBZ.out.cell 2
                  have y1 := HBXZ.out.cell 1
                  simp only [List.getElem?_toArray, List.getElem?_cons_zero, List.getElem?_cons_succ] at t0 t1 t2 y1
                  have n0 := HSZ.out.va.get0 HNW.out
                  have n1 := HSZ.out.va.get1 HNW.out
                  have nf := HSZ.out.va.free
                  have hput := HSZ.out.put HM2.out HNW.out (v := (rk, rn))
                  have hs2 := HSN.out
                  dsimp only at hs2
                  rw [Int.toNat_natCast] at hs2
                  rw [← hs2] at hput
                  have HPUT := Lib.hid hput
                  have hby := (HBXZ.out.other (b' := w3.heap.size) HNY.out (xx * 2) (.int .i64 rk)).other (b' := w3.heap.size) HNY.out (xx * 2 + 1) (.int .i64 rn)
                  rw [← hcom] at hby
                  have HBY := Lib.hid hby
                  clear hr hrok h4 hrm hb1 hnow hlen hs2 hput hby
                  go_wp2
                  exact ⟨⟨z + 1, by omega, by go_num, HPUT.out, HBY.out⟩, by simp [intOf]; omega⟩
                · have hze : z = x.wr.length := by omega
                  have HST5 := Lib.hid (show LgSt w2 w7 k w3.heap.size (sets now x.wr) wr by have := HST3.out; rw [hze, List.take_length] at this; exact this)
                  have HNL5 := Lib.hid (show (sets now x.wr).length = k by rw [sets_len, HNL.out])
                  have hltz' : ¬ ((z : Int) < (x.wr.length : Int)) := by omega
                  have HJ := Lib.hid (show j + 1 ≤ E.length by have := HEL.out; omega)
                  clear hze
                  go_wp2
                  go_round
                  case rel => exact ⟨j + 1, sets now x.wr, HJ.out, by go_num, HNL5.out, HST5.out, HREP2.out⟩
                  case measure => simp [intOf]; omega
        · have HJE := Lib.hid (show j = X.length by have := HEL.out; omega)
          have hrp := HRP.out
          rw [List.drop_of_length_le (by have := HEL.out; omega)] at hrp
          have HNOW := Lib.hid (show now = vals g.s from hrp)
          have H8 := Lib.hid (H2.out.below HST.out.bel)
          clear hrp
          go_wp2_with fail
          refine (values_live H8.out (by omega)).mono ?_
          rintro e w9 ⟨q9, rfl, hv9, hb9⟩
          rw [HNN.out] at hv9
          rw [HNN.out]
          have HV9 := Lib.hid hv9
          have HST9 := Lib.hid (HST.out.below hb9)
          clear hv9 hb9
          go_wp2
          generalize wr.heap.size = b9 at *
          go_loopw [104] (LvRel w2 w7 k w3.heap.size now (vals g.s) b9 q9) (fun i _ => 100 - (intOf i).toNat)
          case atStart => exact ⟨0, Nat.zero_le _, rfl, HST9.out, HV9.out.below (Below.refl _ _) (Nat.le_refl _)⟩
          case round =>
            obtain ⟨z, hz, rfl, hst, hva⟩ := hrel
            have HSA := Lib.hid hst
            have HVA := Lib.hid hva
            clear hst hva
            by_cases hltz : z < k
            · have hzl : z < (vals g.s).length := by rw [vals_len, HNN.out]; exact hltz
              have hvz : (vals g.s)[z]? = some ((vals g.s)[z]'hzl) := List.getElem?_eq_getElem hzl
              generalize (vals g.s)[z]'hzl = p at hvz
              have HVZ := Lib.hid hvz
              obtain ⟨pk, pn⟩ := p
              have q0 := HVA.out.get0 HVZ.out
              have q1 := HVA.out.get1 HVZ.out
              have HBZ := Lib.hid (Tx.Blk.new wr #[.int .i64 pk, .int .i64 pn] 62)
              have HSZ := Lib.hid (HSA.out.below (Tx.below_new wr (.cells #[.int .i64 pk, .int .i64 pn] 62)))
              have HVB := Lib.hid (HVA.out.below (Tx.below_new wr (.cells #[.int .i64 pk, .int .i64 pn] 62)) (Nat.le_refl _))
              have hltz' : (z : Int) < (k : Int) := by omega
              clear hvz hzl
              go_wp2
              have t0 := HBZ.out.cell 0
              have t1 := HBZ.out.cell 1
              simp only [List.getElem?_toArray, List.getElem?_cons_zero, List.getElem?_cons_succ] at t0 t1
              have hva2 := HSZ.out.va
              rw [HNOW.out] at hva2
              have n0 := hva2.get0 HVZ.out
              have n1 := hva2.get1 HVZ.out
              clear q0 q1 hva2
              generalize wr.alloc (.cells #[.int .i64 pk, .int .i64 pn] 62) = wZ at *
              go_quiet (fail)
              go_wp2
              exact ⟨⟨z + 1, by omega, by go_num, HSZ.out.below (below_drewN (Below.refl _ _) _), HVB.out.below (below_drewN (Below.refl _ _) _) (Nat.le_refl _)⟩, by simp [intOf]; omega⟩
            · obtain rfl : z = k := by omega
              go_wp2
              go_ret
              exact ⟨rfl, H2.out.bel.trans (HSA.out.bel.mono H2.out.bel.size)⟩
end Go.Proofs.YtkghpecimjmjfaaGreatDoor.En
