/-
  The walk of ReplayReads.
-/
import Derived.Test.YtkbgnapbhboplaaRepLaw
import Derived.Test.YtkbgnapbhboplaaAnyZ
import Derived.Deep.RegionLaw
namespace Go.Proofs.Ytkbgnapbhboplaa.Rp
open Go.RowKit Tx Az
/-- bytes that came in. -/
structure BtAt (w : World) (a : Option Addr) (len : Nat) (zs : List Nat) : Prop where
  len : zs.length = len
  cell : ∀ j z, zs[j]? = some z → ∃ x, a = some x ∧ w.cell? (x.add j) = some (.int .u8 (z : Nat))
  lt : ∀ z ∈ zs, z < 256
theorem BtAt.below {w w' : World} {a : Option Addr} {len : Nat} {zs : List Nat} {B : Nat} (h : BtAt w a len zs) (hb : Below B w w') (hB : w.heap.size ≤ B) : BtAt w' a len zs :=
  ⟨h.len, fun j z hz => by
    obtain ⟨x, e, hc⟩ := h.cell j z hz
    exact ⟨x, e, (hb.cell (Nat.lt_of_lt_of_le (cell_lt hc) hB)).trans hc⟩, h.lt⟩
theorem step_append_vars {t e : TypeId} (T : VT t e) {ops : Array Oper} {o : Oper} {a : Act} {w : World} {K : Act → World → Prop} {Q : Exit → Act → World → Prop} {E : Prop}
    (hg : o.guard = none) (s x : Operand) (hop : o.op = Op.call { callee := Callee.builtin Builtin.append, args := #[s, x], argTypes := #[t, t] }) {base : Nat} {v : Value} {L : List Sp} (hs : a.eval s = v) (hown : OwnVars w base e v L)
    (A : Option Addr) (c : Nat) (M : List Sp) {m : Nat} (hm : M.length = m) (hx : a.eval x = .slice A m c) (hM : VarsAt w A M) (hlen : L.length + M.length ≤ 1000) (hbase : base ≤ w.heap.size)
    (hK : ∀ v' w', OwnVars w' base e v' (L ++ M) → w.grownBy w' v.ownBlock → K (a.put o.dst v') w') :
    if Region.wanted o (yielded ops a.tmps) = true then Oper.wp Try.prog o a w K Q else E := by
  have hw : Region.wanted o (yielded ops a.tmps) = true := by simp [Region.wanted, hg]
  rw [if_pos hw]
  subst hm
  obtain ⟨v', w', hr, h2, h3⟩ := run_append_vars T o.type hown c hM hlen hbase
  unfold Oper.wp
  simp [execOp, hop, resolve, invoke, builtin, hs, hx, hr, Result.andThen]
  exact hK v' w' h2 h3
/-- the step that reads what there is at a place. -/
def stepAt (S : List Vp) (z : Nat) : Sp := ⟨((z % S.length : Nat) : Int), (S.getD (z % S.length) (0, 0)).1, (S.getD (z % S.length) (0, 0)).2, false⟩
/-- the entry's box, and all that lay below it. -/
structure RSt (b : Nat) (v : Value) (w2 W : World) : Prop where
  box : Blk W b #[.int .i64 0, .bool false, .bool false, v, .slice none 0 0] 41
  bel : Below b w2 W
  le : b + 1 ≤ W.heap.size
theorem RSt.below {b : Nat} {v : Value} {w2 W W' : World} (h : RSt b v w2 W) (hb : Below W.heap.size W W') : RSt b v w2 W' :=
  ⟨h.box.below hb, h.bel.trans (hb.mono (Nat.le_trans (Nat.le_succ _) h.le)), Nat.le_trans h.le hb.size⟩
theorem RSt.grown {b : Nat} {v : Value} {w2 W W' : World} (h : RSt b v w2 W) (hb : Below (b + 1) W W') : RSt b v w2 W' :=
  ⟨(hb.block b (Nat.lt_succ_self _)).trans h.box, h.bel.trans (hb.mono (Nat.le_succ _)), Nat.le_trans h.le hb.size⟩
theorem RSt.store {b : Nat} {v : Value} {w2 W : World} (h : RSt b v w2 W) (u : Value) : RSt b u w2 (W.setCell ⟨b, 3, none⟩ u) :=
  ⟨h.box.set 3 u, h.bel.setCell (p := ⟨b, 3, none⟩) (Nat.le_refl _) u, by simpa using h.le⟩
theorem RSt.c3 {b : Nat} {v : Value} {w2 W : World} (h : RSt b v w2 W) : W.cell? ⟨b, 3, none⟩ = some v := h.box.cell 3
/-- what lies below the row's base stays when the row grows. -/
structure OwK (base : Nat) (v : Value) (L : List Sp) (W : World) : Prop where
  own : OwnVars W base 58 v L
  le : base ≤ W.heap.size
theorem OwK.below {base : Nat} {v : Value} {L : List Sp} {W W' : World} (h : OwK base v L W) (hb : Below W.heap.size W W') : OwK base v L W' := ⟨h.own.below hb (Nat.le_refl _), Nat.le_trans h.le hb.size⟩
theorem own_set {w : World} {base : Nat} {e : TypeId} {v : Value} {L : List Sp} (h : OwnVars w base e v L) {b : Nat} (hb : b < base) (i : Nat) (u : Value) : OwnVars (w.setCell ⟨b, i, none⟩ u) base e v L := by
  refine ⟨h.row.kept (row := some b) ⟨rfl, rfl, rfl, by simp, fun k hk hne => Below.heap_setCell _ _ _ k (fun e => hne (by rw [e]))⟩ ?_, h.ok⟩
  cases e : v.ownBlock with
  | none => exact .inl rfl
  | some k => exact .inr (fun e2 => by have := (h.row.lt k e).1; have := Option.some.inj e2; omega)
theorem stepAt_x (S : List Vp) (z : Nat) : (stepAt S z).x = ((z % S.length : Nat) : Int) := rfl
theorem stepAt_ok {S : List Vp} (hS : ∀ v ∈ S, i64p v.1 ∧ i64p v.2) (hn : 0 < S.length) (hl : S.length ≤ 100) (z : Nat) : (stepAt S z).ok := by
  have hlt := Nat.mod_lt z hn
  have hm : S.getD (z % S.length) (0, 0) ∈ S := by
    rw [List.getD_eq_getElem?_getD, List.getElem?_eq_getElem hlt]
    exact List.getElem_mem hlt
  exact ⟨⟨by rw [stepAt_x]; omega, by rw [stepAt_x]; omega⟩, (hS _ hm).1, (hS _ hm).2⟩
theorem stepAt_at {S : List Vp} (hn : 0 < S.length) (z : Nat) : S[z % S.length]? = some ((stepAt S z).k, (stepAt S z).n) := by
  have hlt := Nat.mod_lt z hn
  unfold stepAt
  rw [List.getD_eq_getElem?_getD, List.getElem?_eq_getElem hlt]
  rfl
theorem stepAt_no {S : List Vp} (hn : 0 < S.length) (z : Nat) : denies S (stepAt S z) = false := by
  have h1 : has S (stepAt S z).x = true := (has_iff _ _).2 ⟨by rw [stepAt_x]; omega, by have := Nat.mod_lt z hn; rw [stepAt_x]; omega⟩
  have h2 : at_ S (stepAt S z).x = some ((stepAt S z).k, (stepAt S z).n) := by
    unfold at_
    rw [if_pos ((has_iff _ _).1 h1).1]
    exact stepAt_at hn z
  unfold denies lacks
  rw [h1, h2]
  simp
theorem stepA_eq {s : Sp} {q : Nat} (h1 : s.x = (q : Int)) (h2 : s.wr = false) : stepA s = #[.int .i64 (q : Nat), .int .i64 s.k, .int .i64 s.n, .bool false] := by unfold stepA; rw [h1, h2]
/-- the steps of the reads. -/
def rdsOf (S : List Vp) (zs : List Nat) : List Sp := zs.map (stepAt S)
def rdE (L : List Sp) : Ent := ⟨0, false, false, L, []⟩
theorem rds_fit {S : List Vp} (hn : 0 < S.length) (zs : List Nat) : fits S (rdE (rdsOf S zs)) = true ∧ doS S (rdE (rdsOf S zs)) = S := by
  have : fits S (rdE (rdsOf S zs)) = true := by
    have h : (rdsOf S zs).any (denies S) = false := by
      rw [List.any_eq_false]
      intro s hs
      obtain ⟨z, _, rfl⟩ := List.mem_map.1 hs
      simp [stepAt_no hn z]
    unfold fits rdE; simp only; rw [h]; rfl
  exact ⟨this, by unfold doS; rw [this]; rfl⟩
theorem rds_not {S : List Vp} {L : List Sp} {i : Nat} {s : Sp} (hs : L[i]? = some s) (hd : denies S s = true) : fits S (rdE L) = false ∧ doS S (rdE L) = S := by
  have h : L.any (denies S) = true := List.any_eq_true.2 ⟨s, List.mem_of_getElem? hs, hd⟩
  have : fits S (rdE L) = false := by unfold fits rdE; simp only; rw [h]; rfl
  exact ⟨this, by unfold doS; rw [this]; rfl⟩
/-- with its number turned a step that read what there is did not. -/
theorem turned {S : List Vp} (hS : ∀ v ∈ S, i64p v.1 ∧ i64p v.2) (hn : 0 < S.length) (hl : S.length ≤ 100) (z : Nat) : denies S ⟨(stepAt S z).x, (stepAt S z).k, wrap64 ((stepAt S z).n + 1), false⟩ = true := by
  have h1 : has S (stepAt S z).x = true := (has_iff _ _).2 ⟨by rw [stepAt_x]; omega, by have := Nat.mod_lt z hn; rw [stepAt_x]; omega⟩
  have h2 : at_ S (stepAt S z).x = some ((stepAt S z).k, (stepAt S z).n) := by
    unfold at_
    rw [if_pos ((has_iff _ _).1 h1).1]
    exact stepAt_at hn z
  have hb := (stepAt_ok hS hn hl z).2.2
  unfold i64p at hb
  unfold denies lacks
  rw [h1, h2]
  simp
  unfold wrap64
  omega
theorem turned_ok {S : List Vp} (hS : ∀ v ∈ S, i64p v.1 ∧ i64p v.2) (hn : 0 < S.length) (hl : S.length ≤ 100) (z : Nat) : (⟨(stepAt S z).x, (stepAt S z).k, wrap64 ((stepAt S z).n + 1), false⟩ : Sp).ok := by
  have hb := stepAt_ok hS hn hl z
  refine ⟨hb.1, hb.2.1, ?_⟩
  unfold i64p wrap64
  constructor <;> simp <;> omega
theorem does_rd (A : Option Addr) (c : Nat) (S : List Vp) (b : Bool) (L : List Sp) (V : Option Addr) (vc n : Nat) (w : World) (hA : Rn.At encV w A S) (hV : SlAt w V vc L) (hn : L.length = n) (hl : n ≤ 300) (hS : S.length ≤ 300) (h1 : fits S (rdE L) = b) (h2 : doS S (rdE L) = S) :
    Calls Try.prog 14 #[.slice A S.length c, .agg #[.int .i64 0, .bool false, .bool false, .slice V n vc, .slice none 0 0]] w (DoesSp S b w) := by
  subst hn
  exact does_s A c S S b ⟨rdE L, V, vc, none, 0⟩ w hA ⟨hV, ⟨VarsAt.none_ _ _, Nat.le_refl _, show (0 : Nat) ≤ maxLen by decide⟩⟩ hl (by show ([] : List Sp).length ≤ 300; decide) hS h2 h1
def RrRel (S : List Vp) (zs : List Nat) (b : Nat) (w2 : World) (i : Value) (wr : World) : Prop :=
  ∃ (k : Nat) (v : Value), k ≤ zs.length ∧ i = .int .i64 k ∧ Aside (RSt b v w2 wr) ∧ Aside (OwK (b + 1) v (rdsOf S (zs.take k)) wr)
theorem rds_snoc {S : List Vp} {zs : List Nat} {k z : Nat} (h : zs[k]? = some z) : rdsOf S (zs.take (k + 1)) = rdsOf S (zs.take k) ++ [stepAt S z] := by
  unfold rdsOf; rw [Rn.step_take h, List.map_append]; rfl
set_option maxHeartbeats 8000000 in
set_option maxRecDepth 100000 in
theorem replayReads_walk (A a : Option Addr) (n c m d p : Nat) (S : List Vp) (zs : List Nat) (w : World) (h0 : ValArg w A n c S) (h1 : BtAt w a m zs) (hm1 : (m : Int) ≤ 9223372036854775807) (hp : p < 256) :
    Calls Try.prog 6 #[.slice A n c, .slice a m d, .int .u8 (p : Nat)] w fun e w' => e = .returned (.bool true) ∧ Below w.heap.size w w' := by
  obtain ⟨rfl, hc, hm, hA, hS⟩ := h0
  have HA := Lib.hid hA
  have HB := Lib.hid h1
  have HS := Lib.hid hS
  have hN : (S.length : Int) ≤ 9223372036854775807 := by unfold maxLen at hm; omega
  clear hA h1 hc hm hS
  go_enter Try.func6, Try.ntmps6
  go_wp2_with fail
  refine (alive_any _).mono ?_
  rintro e w1 ⟨rfl, hb1⟩
  have B1 := Lib.hid hb1
  clear hb1
  by_cases hb1 : 100 < S.length
  · have hb1' : (100 : Int) < (S.length : Int) := by omega
    go_wp2
    go_ret
    exact ⟨rfl, B1.out⟩
  have hb1' : ¬ (100 : Int) < (S.length : Int) := by omega
  by_cases hb2 : 100 < m
  · have hb2' : (100 : Int) < (m : Int) := by omega
    go_wp2
    go_ret
    exact ⟨rfl, B1.out⟩
  have hb2' : ¬ (100 : Int) < (m : Int) := by omega
  by_cases hb3 : S.length = 0
  · have hb3' : (S.length : Int) = 0 := by omega
    go_wp2
    go_ret
    exact ⟨rfl, B1.out⟩
  have hb3' : ¬ (S.length : Int) = 0 := by omega
  have hb4' : ((S.length : Int) == 0) = false := by simpa using hb3
  have hs3 : S.length ≤ 300 := by omega
  have HP := Lib.hid (show 0 < S.length ∧ S.length ≤ 100 by omega)
  go_wp2_with fail
  refine (theirsV_s A c S _ (HA.out.below B1.out (Nat.le_refl _)) hs3).mono ?_
  rintro e w2 ⟨T, tc, rfl, hT, hb⟩
  have B2 := Lib.hid (B1.out.trans (hb.mono B1.out.size))
  have HT := Lib.hid hT
  obtain ⟨b, hbb⟩ : ∃ b, w2.heap.size = b := ⟨_, rfl⟩
  have HBB := Lib.hid hbb
  have HR2 := Lib.hid (show RSt b (.slice none 0 0) w2 (w2.alloc (.cells #[.int .i64 0, .bool false, .bool false, .slice none 0 0, .slice none 0 0] 41)) from
    ⟨Blk.new' hbb _ _, by rw [← hbb]; exact Rn.below_new _ _, by simp [hbb]⟩)
  have HO2 := Lib.hid (show OwK (b + 1) (.slice none 0 0) (rdsOf S (zs.take 0)) (w2.alloc (.cells #[.int .i64 0, .bool false, .bool false, .slice none 0 0, .slice none 0 0] 41)) from ⟨own_nil _ _ _, by simp [hbb]⟩)
  clear hT hb
  obtain rfl : m = zs.length := HB.out.len.symm
  go_wp2
  clear hbb
  go_loopw [35] (RrRel S zs b w2) (fun i _ => zs.length - (intOf i).toNat)
  case atStart => exact ⟨0, .slice none 0 0, Nat.zero_le _, rfl, HR2.out, HO2.out⟩
  case round =>
    obtain ⟨k, v, hk, rfl, HR, HO⟩ := hrel
    clear HR2 HO2
    by_cases hlt : k < zs.length
    · obtain ⟨z, hz⟩ : ∃ z, zs[k]? = some z := ⟨_, List.getElem?_eq_getElem hlt⟩
      obtain ⟨ad, rfl, cz⟩ := (HB.out.below (B2.out.trans (HR.out.bel.mono (by have h1 := HBB.out; have h2 := B2.out.size; omega))) (Nat.le_refl _)).cell k z hz
      obtain ⟨q, hq⟩ : ∃ q, z % S.length = q := ⟨_, rfl⟩
      have hrem : ((z : Int) % (S.length : Int)) = (q : Int) := by rw [← hq, Int.natCast_emod]
      have hqn : q < S.length := by rw [← hq]; exact Nat.mod_lt _ HP.out.1
      have hqi : (q : Int) < (S.length : Int) := by omega
      have hq0 : (0 : Int) ≤ (q : Int) := by omega
      have hsa := stepAt_at HP.out.1 z
      rw [hq] at hsa
      have HSX := Lib.hid (show (stepAt S z).x = (q : Int) by rw [stepAt_x, hq])
      have HOK := Lib.hid (stepAt_ok HS.out HP.out.1 HP.out.2 z)
      have HSN := Lib.hid (rds_snoc (S := S) hz)
      have HWR := Lib.hid (show (stepAt S z).wr = false from rfl)
      obtain ⟨s, hs⟩ : ∃ s, stepAt S z = s := ⟨_, rfl⟩
      rw [hs] at hsa HSX HOK HSN HWR
      obtain ⟨ad2, rfl, _, _⟩ := at2 HT.out hsa
      have HVL := Lib.hid (show ∀ W, RSt b v w2 W → W.cell? (ad2.add (q * 2)) = some (.int .i64 s.k) ∧ W.cell? ⟨(ad2.add (q * 2)).block, (ad2.add (q * 2)).off + 1, none⟩ = some (.int .i64 s.n) from fun W hW => by
        obtain ⟨ad3, e, d0, d1⟩ := at2 (HT.out.below hW.bel (by rw [HBB.out]; exact Nat.le_refl _)) hsa
        cases e
        exact ⟨d0, d1⟩)
      have hzb : (z : Int) < 256 := by have := HB.out.lt z (List.mem_of_getElem? hz); omega
      have hz0 : (0 : Int) ≤ (z : Int) := by omega
      have hlt' : (k : Int) < (zs.length : Int) := by omega
      have h0 : (0 : Int) ≤ (k : Int) := by omega
      have HLL := Lib.hid (show (rdsOf S (zs.take k)).length ≤ 100 by unfold rdsOf; rw [List.length_map, List.length_take]; omega)
      have hSp : (0 : Int) < (S.length : Int) := by omega
      have HQ := Lib.hid hqn
      clear hs hsa hz hq hqn
      go_wp2
      refine wp_region_noPanic ?_
      refine region_z 12 (RSt b v w2) 11 1000 rfl (by kernel_rfl) (by exact HR.out.below (Tx.below_drewN _ _ 1)) (fun hHeld => ?_)
      have hO : OwK (b + 1) v (rdsOf S (zs.take k)) wr.drew := HO.out.below (Tx.below_drewN _ _ 1)
      refine take_z 0 44 (.pointer (some ⟨b, 3, none⟩)) rfl rfl (by kernel_rfl) (by kernel_rfl) (by kernel_rfl) (by kernel_rfl) (fun _ _ _ h => h) (Or.inl ⟨by rfl, by intro W hW; clear hW; go_simp⟩) hHeld ?_
      simp only [put_laws]
      refine take_z 1 45 (v) rfl rfl (by kernel_rfl) (by kernel_rfl) (by kernel_rfl) (by kernel_rfl) (fun _ _ _ h => h) (Or.inl ⟨by rfl, by intro W hW; have hc := hW.c3; clear hW; go_simp⟩) hHeld ?_
      simp only [put_laws]
      refine take_z 2 46 (.int .i64 (q : Nat)) rfl rfl (by kernel_rfl) (by kernel_rfl) (by kernel_rfl) (by kernel_rfl) (fun _ _ _ h => h) (Or.inl ⟨by rfl, by intro W hW; clear hW; go_simp⟩) hHeld ?_
      simp only [put_laws]
      refine take_z 3 47 (.slice (some ad2) S.length tc) rfl rfl (by kernel_rfl) (by kernel_rfl) (by kernel_rfl) (by kernel_rfl) (fun _ _ _ h => h) (Or.inl ⟨by rfl, by intro W hW; clear hW; go_simp⟩) hHeld ?_
      simp only [put_laws]
      refine take_z 4 48 (.int .i64 (q : Nat)) rfl rfl (by kernel_rfl) (by kernel_rfl) (by kernel_rfl) (by kernel_rfl) (fun _ _ _ h => h) (Or.inl ⟨by rfl, by intro W hW; clear hW; go_simp⟩) hHeld ?_
      simp only [put_laws]
      refine take_z 5 49 (.pointer (some (ad2.add (q * 2)))) rfl rfl (by kernel_rfl) (by kernel_rfl) (by kernel_rfl) (by kernel_rfl) (fun _ _ _ h => h) (Or.inl ⟨by rfl, by intro W hW; have hq := HQ.out; clear hW; go_simp⟩) hHeld ?_
      simp only [put_laws]
      refine take_z 6 50 (.agg (#[.int .i64 s.k, .int .i64 s.n])) rfl rfl (by kernel_rfl) (by kernel_rfl) (by kernel_rfl) (by kernel_rfl) (fun _ _ _ h => h) (Or.inl ⟨by rfl, by intro W hW; have hv := HVL.out W hW; have v0 := hv.1; have v1 := hv.2; clear hW; go_simp⟩) hHeld ?_
      simp only [put_laws]
      refine take_z 7 51 (.agg (#[.int .i64 (q : Nat), .int .i64 s.k, .int .i64 s.n, .bool false])) rfl rfl (by kernel_rfl) (by kernel_rfl) (by kernel_rfl) (by kernel_rfl) (fun _ _ _ h => h) (Or.inl ⟨by rfl, by intro W hW; clear hW; go_simp⟩) hHeld ?_
      simp only [put_laws]
      refine anyZ_ready (rs := [8]) (by kernel_rfl) (by simp) ?_
      refine AllZ.cons rfl (fun K hK => ?_) AllZ.nil
      go_simp
      have hN : VarsAt ((wr.alloc (.cells #[.int .i64 (q : Nat), .int .i64 s.k, .int .i64 s.n, .bool false] 58)).drew) (some ⟨wr.heap.size, 0, none⟩) [s] := vars_one (t := 58) (w := (wr.alloc (.cells #[.int .i64 (q : Nat), .int .i64 s.k, .int .i64 s.n, .bool false] 58)).drew) (by have h := Blk.new (wr.drew) #[.int .i64 (q : Nat), .int .i64 s.k, .int .i64 s.n, .bool false] 58; rw [stepA_eq HSX.out HWR.out]; exact h) HOK.out
      have hPrev := hHeld
      have hHeld := hHeld.below (show Below _ _ ((wr.alloc (.cells #[.int .i64 (q : Nat), .int .i64 s.k, .int .i64 s.n, .bool false] 58)).drew) from Rn.below_new (wr.drew) (.cells #[.int .i64 (q : Nat), .int .i64 s.k, .int .i64 s.n, .bool false] 58))
      have hO := hO.below (show Below _ _ ((wr.alloc (.cells #[.int .i64 (q : Nat), .int .i64 s.k, .int .i64 s.n, .bool false] 58)).drew) from Rn.below_new (wr.drew) (.cells #[.int .i64 (q : Nat), .int .i64 s.k, .int .i64 s.n, .bool false] 58))
      generalize (wr.alloc (.cells #[.int .i64 (q : Nat), .int .i64 s.k, .int .i64 s.n, .bool false] 58)).drew = w4 at *
      clear hPrev
      refine hK.out _ _ hHeld (fun hHeld => ?_)
      clear hK K
      refine anyZ_ready (rs := [9]) (by kernel_rfl) (by simp) ?_
      refine AllZ.cons rfl (fun K hK => ?_) AllZ.nil
      refine step_append_vars lvt rfl (.tmp 45) (.tmp 52) rfl rfl hO.own _ _ [s] rfl rfl hN (by have := HLL.out; simp; omega) hO.le ?_
      intro v5 w5 ho5 hg5
      obtain ⟨T5, c5, hv5, _⟩ := ho5.slice
      obtain ⟨n5, hn5⟩ : ∃ n5, (rdsOf S (zs.take k) ++ [s]).length = n5 := ⟨_, rfl⟩
      rw [hn5] at hv5
      subst hv5
      clear hn5
      have hb5 : Below (b + 1) w4 w5 := (Below.refl _ _).grown hg5 hO.le (fun k hk => (hO.own.row.lt k hk).1)
      have hPrev := hHeld
      have hHeld := hPrev.grown hb5
      have HO5 := Lib.hid (show OwK (b + 1) (.slice T5 n5 c5) (rdsOf S (zs.take k) ++ [s]) w5 from ⟨ho5, Nat.le_trans hO.le hb5.size⟩)
      clear hPrev ho5 hg5 hb5 hN hO
      refine hK.out _ _ hHeld (fun hHeld => ?_)
      clear hK K
      refine take_z 10 54 (.pointer (some ⟨b, 3, none⟩)) rfl rfl (by kernel_rfl) (by kernel_rfl) (by kernel_rfl) (by kernel_rfl) (fun _ _ _ h => h) (Or.inl ⟨by rfl, by intro W hW; clear hW; go_simp⟩) hHeld ?_
      simp only [put_laws]
      refine anyZ_ready (rs := [11]) (by kernel_rfl) (by simp) ?_
      refine AllZ.last rfl rfl (fun K hK => ?_)
      have b3 := hHeld.c3
      have bf := hHeld.box.free
      have HR6 := Lib.hid (hHeld.store (.slice T5 n5 c5))
      have HO6 := Lib.hid (show OwK (b + 1) (.slice T5 n5 c5) (rdsOf S (zs.take k) ++ [s]) (w5.setCell ⟨b, 3, none⟩ (.slice T5 n5 c5)) from ⟨own_set HO5.out.own (Nat.lt_succ_self _) 3 (.slice T5 n5 c5), by simpa using HO5.out.le⟩)
      go_simp
      clear b3 bf
      refine hK.out _ _ ?_
      clear hK K
      refine anyZ_done (by kernel_rfl) ?_ _
      refine NoPanic.normal ?_
      clear hHeld
      go_wp2
      go_roundw
      case rel => exact ⟨k + 1, _, by omega, by go_num, HR6.out, by rw [HSN.out]; exact HO6.out⟩
      case measure => simp [intOf]; omega
    · have hlt' : ¬ (k : Int) < (zs.length : Int) := by omega
      have HO3 := Lib.hid (show OwK (b + 1) v (rdsOf S zs) wr by have := HO.out; rwa [List.take_of_length_le (by omega)] at this)
      obtain ⟨L, hL⟩ : ∃ L, rdsOf S zs = L := ⟨_, rfl⟩
      have HLE := Lib.hid hL
      have hLn : L.length = zs.length := by rw [← hL]; unfold rdsOf; rw [List.length_map]
      have HFI := Lib.hid (rds_fit HP.out.1 zs)
      rw [hL] at HO3 HFI
      obtain ⟨V, vc, hv, hle, hmx, hva⟩ := HO3.out.own.slice
      rw [hLn] at hv
      subst hv
      have HVA := Lib.hid hva
      have HLN := Lib.hid hLn
      have HVC := Lib.hid (show L.length ≤ vc ∧ vc ≤ maxLen from ⟨hle, hmx⟩)
      have hTb := Lib.hid (show Rn.At encV wr T S from HT.out.below HR.out.bel (by rw [HBB.out]; exact Nat.le_refl _))
      have HBW := Lib.hid (B2.out.trans (HR.out.bel.mono (by have h1 := HBB.out; have h2 := B2.out.size; omega)))
      clear hL hLn hle hmx hva
      have b0 := HR.out.box.cell 0
      have b1 := HR.out.box.cell 1
      have b2 := HR.out.box.cell 2
      have b3 := HR.out.box.cell 3
      have b4 := HR.out.box.cell 4
      simp only [List.getElem?_toArray, List.getElem?_cons_zero, List.getElem?_cons_succ] at b0 b1 b2 b3 b4
      go_wp2_with fail
      refine (does_rd T tc S true L V vc zs.length _ hTb.out ⟨HVA.out, HVC.out.1, HVC.out.2⟩ HLN.out (by omega) hs3 HFI.out.1 HFI.out.2).mono ?_
      rintro e w6 ⟨D, dc, rfl, hD, hb⟩
      have HR6 := Lib.hid (HR.out.below hb)
      have HO6 := Lib.hid (HO3.out.below hb)
      have HT6 := Lib.hid (at_below hTb.out hb)
      have HBW6 := Lib.hid (HBW.out.trans (hb.mono HBW.out.size))
      have HD6 := Lib.hid hD
      clear hD hb b0 b1 b2 b3 b4
      go_wp2_with fail
      refine (valuesV_s D dc S _ HD6.out hs3).mono ?_
      rintro e w7 ⟨E, ec, rfl, hE, hb⟩
      have HR7 := Lib.hid (HR6.out.below hb)
      have HO7 := Lib.hid (HO6.out.below hb)
      have HT7 := Lib.hid (at_below HT6.out hb)
      have HBW7 := Lib.hid (HBW6.out.trans (hb.mono HBW6.out.size))
      have HE7 := Lib.hid hE
      clear hE hb
      go_wp2_with fail
      refine (vsame_yes E A ec c S _ HE7.out (HA.out.below HBW7.out (Nat.le_refl _)) hs3).mono ?_
      rintro e w8 ⟨rfl, hb⟩
      have HR8 := Lib.hid (HR7.out.below hb)
      have HO8 := Lib.hid (HO7.out.below hb)
      have HT8 := Lib.hid (at_below HT7.out hb)
      have HBW8 := Lib.hid (HBW7.out.trans (hb.mono HBW7.out.size))
      clear hb
      by_cases hz0 : zs.length = 0
      · have hz0' : (zs.length : Int) = 0 := by omega
        go_wp2
        go_ret
        exact ⟨rfl, HBW8.out⟩
      have hz0' : ¬ (zs.length : Int) = 0 := by omega
      have hz0'' : ((zs.length : Int) == 0) = false := by simpa using hz0
      obtain ⟨i, hi⟩ : ∃ i, p % zs.length = i := ⟨_, rfl⟩
      have hrem : ((p : Int) % (zs.length : Int)) = (i : Int) := by rw [← hi, Int.natCast_emod]
      have hiz : i < zs.length := by rw [← hi]; exact Nat.mod_lt _ (by omega)
      obtain ⟨z, hz⟩ : ∃ z, zs[i]? = some z := ⟨_, List.getElem?_eq_getElem hiz⟩
      obtain ⟨s, hs⟩ : ∃ s, stepAt S z = s := ⟨_, rfl⟩
      have hLi : L[i]? = some s := by rw [← HLE.out]; unfold rdsOf; rw [List.getElem?_map, hz, ← hs]; rfl
      have hde := turned HS.out HP.out.1 HP.out.2 z
      have hto := turned_ok HS.out HP.out.1 HP.out.2 z
      rw [hs] at hde hto
      obtain ⟨s2, hs2⟩ : ∃ s2, (⟨s.x, s.k, wrap64 (s.n + 1), false⟩ : Sp) = s2 := ⟨_, rfl⟩
      have hswr : s.wr = false := by rw [← hs]; rfl
      rw [hs2] at hde hto
      have HNOT := Lib.hid (rds_not (L := L.set i s2) (List.getElem?_set_self (by rw [HLN.out]; exact hiz)) hde)
      have HLN2 := Lib.hid (show (L.set i s2).length = zs.length by rw [List.length_set]; exact HLN.out)
      obtain ⟨g, gc, hv, hgb, hgl⟩ := HO8.out.own.open_ (by rw [HLN.out]; omega)
      obtain ⟨hV, -, hgc⟩ := Value.slice.inj hv
      subst hV; subst hgc
      have HG := Lib.hid hgb
      have HO8' := Lib.hid (show OwnVars w8 (b + 1) 58 (.slice (some ⟨g, 0, none⟩) L.length vc) L by have := HO8.out.own; rwa [← HLN.out] at this)
      have HLD := Lib.hid (show w8.cell? ⟨g, i * 4 + 1 + 1, none⟩ = some (.int .i64 s.n) from HO8'.out.get hLi 2 (by decide))
      have HFR := Lib.hid (HO8'.out.free)
      have HPUT := Lib.hid (show OwnVars ((w8.setCell ⟨g, i * 4 + 1 + 1, none⟩ (.int .i64 (wrap64 (s.n + 1)))).drew) (b + 1) 58 (.slice (some ⟨g, 0, none⟩) (L.set i s2).length vc) (L.set i s2) from
        (HO8'.out.below (Tx.below_drewN w8.heap.size w8 1) (Nat.le_refl _)).put hLi 2 (by decide) (.int .i64 (wrap64 (s.n + 1))) (by rw [← hs2]; simp [cellsOf, hswr]) hto)
      have hpI : (p : Int) < 256 := by omega
      have hp0 : (0 : Int) ≤ (p : Int) := by omega
      have hiI : (i : Int) < (zs.length : Int) := by omega
      have hi0 : (0 : Int) ≤ (i : Int) := by omega
      have HRM := Lib.hid (show (p : Int).tmod (zs.length : Int) = (i : Int) by rw [Int.tmod_eq_emod_of_nonneg (by omega)]; exact hrem)
      have HWP := Lib.hid (show IntKind.i64.wrap (p : Int) = (p : Int) by rw [IntKind.wrap_i64]; omega)
      have HWS := Lib.hid (show IntKind.i64.wrap (s.n + 1) = wrap64 (s.n + 1) by rw [IntKind.wrap_i64]; unfold wrap64; rfl)
      have HNL := Lib.hid (show ¬ zs = [] from fun h => hz0 (by rw [h]; rfl))
      have HII := Lib.hid hiz
      have hzp : (0 : Int) < (zs.length : Int) := by omega
      clear hi hz hs hLi hde hto hs2 hswr hv hgb hgl hrem
      go_wp2
      refine wp_region_noPanic ?_
      refine region_z 16 (fun W => W = w8.drew) 12 1000 rfl (by kernel_rfl) (by rfl) (fun hHeld => ?_)
      refine take_z 0 74 (.pointer (some ⟨b, 3, none⟩)) rfl rfl (by kernel_rfl) (by kernel_rfl) (by kernel_rfl) (by kernel_rfl) (fun _ _ _ h => h) (Or.inl ⟨by rfl, by intro W hW; clear hW; go_simp⟩) hHeld ?_
      simp only [put_laws]
      refine take_z 1 75 (.slice (some ⟨g, 0, none⟩) zs.length vc) rfl rfl (by kernel_rfl) (by kernel_rfl) (by kernel_rfl) (by kernel_rfl) (fun _ _ _ h => h) (Or.inl ⟨by rfl, by intro W hW; have hc := HR8.out.c3; rw [hW]; clear hW; go_simp⟩) hHeld ?_
      simp only [put_laws]
      refine take_z 2 76 (.int .u8 (p : Nat)) rfl rfl (by kernel_rfl) (by kernel_rfl) (by kernel_rfl) (by kernel_rfl) (fun _ _ _ h => h) (Or.inl ⟨by rfl, by intro W hW; clear hW; go_simp⟩) hHeld ?_
      simp only [put_laws]
      refine take_z 3 77 (.int .i64 (p : Nat)) rfl rfl (by kernel_rfl) (by kernel_rfl) (by kernel_rfl) (by kernel_rfl) (fun _ _ _ h => h) (Or.inl ⟨by rfl, by intro W hW; have hw := HWP.out; clear hW; go_simp⟩) hHeld ?_
      simp only [put_laws]
      refine take_z 4 78 (.slice a zs.length d) rfl rfl (by kernel_rfl) (by kernel_rfl) (by kernel_rfl) (by kernel_rfl) (fun _ _ _ h => h) (Or.inl ⟨by rfl, by intro W hW; clear hW; go_simp⟩) hHeld ?_
      simp only [put_laws]
      refine take_z 5 79 (.int .i64 (zs.length : Nat)) rfl rfl (by kernel_rfl) (by kernel_rfl) (by kernel_rfl) (by kernel_rfl) (fun _ _ _ h => h) (Or.inl ⟨by rfl, by intro W hW; clear hW; go_simp⟩) hHeld ?_
      simp only [put_laws]
      refine take_z 6 80 (.int .i64 (i : Nat)) rfl rfl (by kernel_rfl) (by kernel_rfl) (by kernel_rfl) (by kernel_rfl) (fun _ _ _ h => h) (Or.inl ⟨by rfl, by intro W hW; have hr := HRM.out; have hn := HNL.out; clear hW; go_simp⟩) hHeld ?_
      simp only [put_laws]
      refine take_z 7 81 (.pointer (some ⟨g, i * 4, none⟩)) rfl rfl (by kernel_rfl) (by kernel_rfl) (by kernel_rfl) (by kernel_rfl) (fun _ _ _ h => h) (Or.inl ⟨by rfl, by intro W hW; have hz := HII.out; clear hW; go_simp⟩) hHeld ?_
      simp only [put_laws]
      refine take_z 8 82 (.pointer (some ⟨g, i * 4 + 1, none⟩)) rfl rfl (by kernel_rfl) (by kernel_rfl) (by kernel_rfl) (by kernel_rfl) (fun _ _ _ h => h) (Or.inl ⟨by rfl, by intro W hW; clear hW; go_simp⟩) hHeld ?_
      simp only [put_laws]
      refine take_z 9 83 (.pointer (some ⟨g, i * 4 + 1 + 1, none⟩)) rfl rfl (by kernel_rfl) (by kernel_rfl) (by kernel_rfl) (by kernel_rfl) (fun _ _ _ h => h) (Or.inl ⟨by rfl, by intro W hW; clear hW; go_simp⟩) hHeld ?_
      simp only [put_laws]
      refine take_z 10 84 (.int .i64 s.n) rfl rfl (by kernel_rfl) (by kernel_rfl) (by kernel_rfl) (by kernel_rfl) (fun _ _ _ h => h) (Or.inl ⟨by rfl, by intro W hW; have hc := HLD.out; rw [hW]; clear hW; go_simp⟩) hHeld ?_
      simp only [put_laws]
      refine take_z 11 85 (.int .i64 (wrap64 (s.n + 1))) rfl rfl (by kernel_rfl) (by kernel_rfl) (by kernel_rfl) (by kernel_rfl) (fun _ _ _ h => h) (Or.inl ⟨by rfl, by intro W hW; have hw := HWS.out; clear hW; go_simp⟩) hHeld ?_
      simp only [put_laws]
      refine anyZ_ready (rs := [12]) (by kernel_rfl) (by simp) ?_
      refine AllZ.last rfl rfl (fun K hK => ?_)
      have hz := HII.out
      go_simp
      clear hz
      refine hK.out _ _ ?_
      clear hK K
      refine anyZ_ready (rs := [13]) (by kernel_rfl) (by simp) ?_
      refine AllZ.last rfl rfl (fun K hK => ?_)
      go_simp
      refine hK.out _ _ ?_
      clear hK K
      refine anyZ_ready (rs := [14]) (by kernel_rfl) (by simp) ?_
      refine AllZ.last rfl rfl (fun K hK => ?_)
      go_simp
      refine hK.out _ _ ?_
      clear hK K
      refine anyZ_ready (rs := [15]) (by kernel_rfl) (by simp) ?_
      refine AllZ.last rfl rfl (fun K hK => ?_)
      have hc := HLD.out
      have hf := HFR.out
      have HB9 := Lib.hid (show Below (b + 1) w8 ((w8.setCell ⟨g, i * 4 + 1 + 1, none⟩ (.int .i64 (wrap64 (s.n + 1)))).drew) from (Tx.below_drewN _ w8 1).setCell (p := ⟨g, i * 4 + 1 + 1, none⟩) HG.out _)
      go_simp
      clear hc hf
      refine hK.out _ _ ?_
      clear hK K
      refine anyZ_done (by kernel_rfl) ?_ _
      refine NoPanic.normal ?_
      clear hHeld
      have HR9 := Lib.hid (HR8.out.grown HB9.out)
      have HT9 := Lib.hid (HT.out.below HR9.out.bel (by rw [HBB.out]; exact Nat.le_refl _))
      have HBW9 := Lib.hid (B2.out.trans (HR9.out.bel.mono (by have h1 := HBB.out; have h2 := B2.out.size; omega)))
      have HV9 := Lib.hid (HPUT.out.slice)
      generalize (w8.setCell ⟨g, i * 4 + 1 + 1, none⟩ (.int .i64 (wrap64 (s.n + 1)))).drew = w9 at HR9 HT9 HBW9 HPUT HV9 HB9 ⊢
      obtain ⟨V2, vc2, hv2, h1, h2, h3⟩ := HV9.out
      obtain ⟨hq1, -, hq2⟩ := Value.slice.inj hv2
      subst hq1; subst hq2
      have HS9 := Lib.hid (show SlAt w9 (some ⟨g, 0, none⟩) vc (L.set i s2) from ⟨h3, h1, h2⟩)
      clear h1 h2 h3 hv2
      have b0 := HR9.out.box.cell 0
      have b1 := HR9.out.box.cell 1
      have b2 := HR9.out.box.cell 2
      have b3 := HR9.out.box.cell 3
      have b4 := HR9.out.box.cell 4
      simp only [List.getElem?_toArray, List.getElem?_cons_zero, List.getElem?_cons_succ] at b0 b1 b2 b3 b4
      go_wp2_with fail
      refine (does_rd T tc S false (L.set i s2) _ vc zs.length _ HT9.out HS9.out HLN2.out (by omega) hs3 HNOT.out.1 HNOT.out.2).mono ?_
      rintro e wa ⟨D2, dc2, rfl, hD2, hb⟩
      have HBA := Lib.hid (HBW9.out.trans (hb.mono HBW9.out.size))
      clear hD2 hb b0 b1 b2 b3 b4
      go_wp2
      go_ret
      exact ⟨rfl, HBA.out⟩
end Go.Proofs.Ytkbgnapbhboplaa.Rp
