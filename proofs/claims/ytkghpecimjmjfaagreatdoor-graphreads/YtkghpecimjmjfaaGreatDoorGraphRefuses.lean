/-
  The walk of GraphRefuses.
-/
import Derived.Test.YtkghpecimjmjfaaGreatDoorGraphEmpty
import Derived.Laws.StructEq
namespace Go.Proofs.YtkghpecimjmjfaaGreatDoor.En
open Go.RowKit
attribute [local go_sem ↓] Go.wp_at_zero Go.wp_at_succ
theorem acts_since {w w1 : World} {A : Option Addr} {N c : Nat} {l : Nat → Act} (h : ActsAt w A N c l) (hb : Below w.heap.size w w1) : ActsAt w1 A N c l := ⟨h.1, h.2.1, fun h0 => by
  obtain ⟨ad, e, hc⟩ := h.2.2 h0
  refine ⟨ad, e, fun i hi => ?_⟩
  obtain ⟨h1, h2, h3⟩ := hc i hi
  exact ⟨h1, h2, fun q u hu => (hb.cell (Tx.cell_lt (h3 q u hu))).trans (h3 q u hu)⟩⟩
theorem vals_same {w w' : World} {P : Nat → Prop} {base q n : Nat} {L : List (Int × Int)} (h : Sx.ValsAt w base q n L) (hs : Same P w w') (hp : P q) : Sx.ValsAt w' base q n L :=
  ⟨row_other h.row (fun k e => by
    have e : q = k := Option.some.inj e
    subst e; exact hs.block _ hp), h.len⟩
def RfRel (w0 : World) (n v : Int) (l : Nat → Act) (m b : Nat) (i : Value) (wr : World) : Prop := ∃ k : Nat, k ≤ m ∧ i = .int .i64 k ∧ Live w0 (fun _ => False) b k (k : Nat) (runE n v l k) wr
def CoRel (L : Nat) (W : World) (i : Value) (wr : World) : Prop := ∃ j : Nat, j ≤ L ∧ i = .int .i64 j ∧ Below W.heap.size W wr
set_option maxHeartbeats 8000000 in
set_option maxRecDepth 100000 in
theorem graphRefuses_walk (s v : Nat) (A : Option Addr) (N c : Nat) (l : Nat → Act) (w : World) (hs : s < 256) (hv : v < 256) (hl : ActsAt w A N c l) (hT : TabAt w) :
    Calls Tryz.prog 7 #[.int .u8 (s : Nat), .int .u8 (v : Nat), .slice A N c] w fun e w' => e = .returned (.bool true) ∧ Below w.heap.size w w' := by
  have HT := Lib.hid hT
  have HL := Lib.hid hl
  have hn : (N : Int) ≤ 9223372036854775807 := by have := hl.1; have := hl.2.1; unfold maxLen at this; omega
  have hz := (zero_of_info gact_info).1
  have hz2 := (zero_of_info rval_info).1
  have hr1 : (s : Int).tmod 32 = ((s % 32 : Nat) : Int) := u8_rem s 32 (by decide)
  have hr2 : (v : Int).tmod 9 = ((v % 9 : Nat) : Int) := u8_rem v 9 (by decide)
  have hm1 : s % 32 < 32 := Nat.mod_lt _ (by decide)
  have hm2 : v % 9 < 9 := Nat.mod_lt _ (by decide)
  clear hT hl
  generalize s % 32 = r1 at *
  generalize v % 9 = r2 at *
  go_enter Tryz.func7, Tryz.ntmps7
  go_wp2_with fail
  refine (alive_any w HT.out).mono ?_
  rintro e w1 ⟨rfl, hb1⟩
  have B1 := Lib.hid hb1
  clear hb1
  by_cases hbig : 150 < N
  · have hbig' : (150 : Int) < (N : Int) := by omega
    go_wp2
    go_ret
    exact ⟨rfl, B1.out⟩
  have hbig' : ¬ (150 : Int) < (N : Int) := by omega
  have hN150 : N ≤ 150 := by omega
  go_wp2_with fail
  refine (new_liveI (1 + (r1 : Nat)) (1 + (r2 : Nat)) w1 ⟨by omega, by omega⟩ ⟨by omega, by omega⟩).mono ?_
  rintro e w2 ⟨b, rfl, hl2⟩
  have H2 := Lib.hid (Live.since B1.out hl2)
  have HOK := Lib.hid (show ∀ i, i < N → (l i).ok from fun i hi => (HL.out.at_ hi).choose_spec.2.1)
  clear hl2
  go_wp2
  go_loopw [35] (RfRel w (1 + ((r1 : Nat) : Int)) (1 + ((r2 : Nat) : Int)) l N b) (fun i _ => N - (intOf i).toNat)
  case atStart => exact ⟨0, Nat.zero_le _, rfl, H2.out⟩
  case round =>
    obtain ⟨k, hk, rfl, hst⟩ := hrel
    have HS := Lib.hid hst
    clear hst
    by_cases hlt : k < N
    · obtain ⟨ad, rfl, hok, hkd, ha⟩ := HL.out.at_ hlt
      generalize hx : l k = x at *
      generalize hgg : runE (1 + ((r1 : Nat) : Int)) (1 + ((r2 : Nat) : Int)) l k = g at *
      have HX := Lib.hid hx
      have HGG := Lib.hid hgg
      have HA := Lib.hid hok
      have HAT := Lib.hid (ha.below HS.out.bel (Nat.le_refl _))
      have c0 := HAT.out.c0
      have c1 := HAT.out.c1
      have c2 := HAT.out.c2
      have c3 := HAT.out.c3
      have c4 := HAT.out.c4
      have hlt' : (k : Int) < (N : Int) := by omega
      have HS4 := Lib.hid (HS.out.own (Q := fun q => q = wr.heap.size) (Tx.below_new wr (.cells (actA x) 45)) (fun q hq => .inr ⟨by omega, by rw [Tx.size_new]; omega⟩))
      have HB4 := Lib.hid (Tx.Blk.new wr (actA x) 45)
      unfold actA at HS4 HB4
      clear hx hok hkd ha HAT hgg
      go_wp2_with fail
      generalize wr.alloc (.cells #[.int .u8 (x.kind : Nat), .int .i64 x.id, .int .i64 x.x, .int .i64 x.k, .int .i64 x.n] 45) = w4 at *
      refine (values_live HS4.out (by omega)).mono ?_
      rintro e w5 ⟨q, rfl, hv5, hb5⟩
      have HV5 := Lib.hid hv5
      have HB5 := Lib.hid (HB4.out.below hb5)
      have HS5 := Lib.hid (HS4.out.own (Q := fun j => j = wr.heap.size ∨ j = q) hb5 (fun j hj => by
        rcases hj with rfl | rfl
        · exact .inl rfl
        · exact .inr hv5.ge))
      clear hv5 hb5 HS4 HB4 c0 c1 c2 c3 c4
      go_wp2_with fail
      refine (rest_live HS5.out (by omega) HT.out).mono ?_
      rintro e w6 ⟨v6, rfl, ht6, hb6⟩
      obtain ⟨A6, c6, rfl⟩ := ht6.len
      have HV6 := Lib.hid (HV5.out.below hb6 (Nat.le_refl _))
      have HB6 := Lib.hid (HB5.out.below hb6)
      have HS6 := Lib.hid (HS5.out.below hb6)
      have HRL := Lib.hid (show (rest g).length ≤ 64 by
        rw [rest_len HS6.out.inv.ps]
        have h1 := count_le HS6.out.inv.ps
        have h2 := HS6.out.inv.ps.size.2
        show Sm.count (g.p.live ||| g.p.done) ≤ 64
        omega)
      have b0 := HB6.out.cell 0
      have b1 := HB6.out.cell 1
      have b2 := HB6.out.cell 2
      have b3 := HB6.out.cell 3
      have b4 := HB6.out.cell 4
      simp only [List.getElem?_toArray, List.getElem?_cons_zero, List.getElem?_cons_succ] at b0 b1 b2 b3 b4
      clear ht6 hb6 HS5 HB5 HV5
      go_wp2_with fail
      refine (does_any HS6.out (by omega) (by omega) HT.out HA.out).mono ?_
      rintro e w7 ⟨rfl, hl7, hs7⟩
      have HV7 := Lib.hid (vals_same HV6.out hs7 (.inr rfl))
      have HB7 := Lib.hid (show Tx.Blk w7 wr.heap.size _ 45 from (hs7.block _ (.inl rfl)).trans HB6.out)
      have HS7 := Lib.hid hl7
      have hb8 := Tx.below_new w7 (.cells #[.int .i64 (act g x).2.1.1, .int .i64 (act g x).2.1.2] 43)
      have HV8 := Lib.hid (HV7.out.below hb8 (Nat.le_refl _))
      have HB8 := Lib.hid (HB7.out.below hb8)
      have HS8 := Lib.hid (HS7.out.below hb8)
      clear hl7 hs7 hb8 b0 b1 b2 b3 b4 HV6 HB6 HS6 HV7 HB7 HS7
      by_cases he : (act g x).2.2.2 = 5
      · have HRF := Lib.hid (act_refused HS.out.inv he)
        rw [he]
        have he1 := HRF.out.2.2
        clear he
        go_wp2_with fail
        generalize w7.alloc (.cells #[.int .i64 (act g x).2.1.1, .int .i64 (act g x).2.1.2] 43) = w8 at *
        refine (values_live HS8.out (by omega)).mono ?_
        rintro e w9 ⟨q2, rfl, hv9, hb9⟩
        have hsl : (act g x).1.s.length = g.s.length := by rw [← vals_len, HRF.out.1, vals_len]
        rw [HRF.out.1, hsl] at hv9
        rw [hsl]
        have HV9 := Lib.hid hv9
        have HVB := Lib.hid (HV8.out.below hb9 (Nat.le_refl _))
        have HB9 := Lib.hid (HB8.out.below hb9)
        have HS9 := Lib.hid (HS8.out.below hb9)
        have HSL := Lib.hid (show g.s.length ≤ 64 from HS.out.inv.len)
        clear hv9 hb9 hsl HV8 HB8 HS8
        go_wp2
        go_loopw [57] (CoRel g.s.length w9) (fun i _ => 100 - (intOf i).toNat)
        case atStart => exact ⟨0, Nat.zero_le _, rfl, Below.refl _ _⟩
        case round =>
          obtain ⟨j, hj, rfl, hbj⟩ := hrel
          have HBJ := Lib.hid hbj
          have hsl64 := HSL.out
          clear hbj
          by_cases hltj : j < g.s.length
          · have hvj : (vals g.s)[j]? = some ((vals g.s)[j]'(by rw [vals_len]; exact hltj)) := List.getElem?_eq_getElem _
            generalize ((vals g.s)[j]'(by rw [vals_len]; exact hltj)) = p at hvj
            have p0 := (HV9.out.below HBJ.out (Nat.le_refl _)).get0 hvj
            have p1 := (HV9.out.below HBJ.out (Nat.le_refl _)).get1 hvj
            have q0 := (HVB.out.below HBJ.out (Nat.le_refl _)).get0 hvj
            have q1 := (HVB.out.below HBJ.out (Nat.le_refl _)).get1 hvj
            have hltj' : (j : Int) < (g.s.length : Int) := by omega
            clear hvj
            go_wp2
            go_quiet (fail)
            go_wp2
            exact ⟨⟨j + 1, by omega, by go_num, below_drewN HBJ.out _⟩, by simp [intOf]; omega⟩
          · have hje : j = g.s.length := by omega
            subst hje
            have HSA := Lib.hid (HS9.out.below HBJ.out)
            have HBA := Lib.hid (HB9.out.below HBJ.out)
            have b1 := HBA.out.cell 1
            simp only [List.getElem?_toArray, List.getElem?_cons_zero, List.getElem?_cons_succ] at b1
            have hm2 : ¬ (((rest g).length : Int) < 2) := by have := HRF.out.2.1; omega
            go_wp2_with fail
            have hc := abort_live HSA.out (by omega) HA.out.id
            rw [HRF.out.2.2] at hc
            refine hc.mono ?_
            rintro e wb ⟨rfl, hlb, _⟩
            rw [show (act g x).1 = runE (1 + ((r1 : Nat) : Int)) (1 + ((r2 : Nat) : Int)) l (k + 1) by rw [← HGG.out]; exact (runE_next HX.out).symm] at hlb
            have HSB := Lib.hid ((hlb.less (Q := fun _ => False) (fun _ h => h.elim)).mono (Nat.le_refl _) (show ((k : Nat) : Int) + 1 ≤ ((k + 1 : Nat) : Int) by omega))
            clear hlb hc b1
            go_wp2
            exact ⟨⟨k + 1, by omega, by go_num, HSB.out⟩, by simp [intOf]; omega⟩
      · have he' : ((act g x).2.2.2 == 5) = false := by simpa using he
        have HE := Lib.hid he'
        have hlb := HS8.out
        rw [show (act g x).1 = runE (1 + ((r1 : Nat) : Int)) (1 + ((r2 : Nat) : Int)) l (k + 1) by rw [← HGG.out]; exact (runE_next HX.out).symm] at hlb
        have HSB := Lib.hid ((hlb.less (Q := fun _ => False) (fun _ h => h.elim)).mono (Nat.le_refl _) (show ((k : Nat) : Int) + 1 ≤ ((k + 1 : Nat) : Int) by omega))
        clear hlb he
        go_wp2
        exact ⟨⟨k + 1, by omega, by go_num, HSB.out⟩, by simp [intOf]; omega⟩
    · obtain rfl : k = N := by omega
      go_wp2
      go_ret
      exact ⟨rfl, HS.out.bel⟩
end Go.Proofs.YtkghpecimjmjfaaGreatDoor.En
