/-
  HistoryCounts: who is in a row began, and is over, just as its events say.
-/
import Derived.Test.YtcfdndppkpjleaaHLaw
namespace Go.Proofs.Ytcfdndppkpjleaa.Hi
open Go.RowKit
open Tx (i64p)
open Rp (Ent Xc encX ItAt RdX)
def isB (e : Ev) : Bool := decide (e.kd = 0)
def isC (e : Ev) : Bool := decide (e.kd = 3)
def isE (e : Ev) : Bool := decide (e.kd = 3) || decide (e.kd = 4)
/-- as many as the events say. -/
structure Cn (a : List Ev) (l : List Cr) : Prop where
  b : l.length = a.countP isB
  c : l.countP (·.com) = a.countP isC
  e : l.countP over = a.countP isE
theorem run_cn {a : List Ev} {l : List Cr} (h : run 0 [] a = some l) (hn : a.length ≤ 2000) : Cn a l := by
  refine run_ind (P := fun n a l => a.length ≤ 2000 → Cn a l) (fun _ => ⟨rfl, rfl, rfl⟩) ?_ a l h hn
  intro a l e ha ih hf hlen
  rw [List.length_append] at hlen
  simp only [List.length_cons, List.length_nil] at hlen
  have hok := run_ok ha (by omega)
  obtain ⟨i1, i2, i3⟩ := ih (by omega)
  by_cases h0 : e.kd = 0
  · rw [step_begin _ h0]
    refine ⟨?_, ?_, ?_⟩
    · simp [List.countP_append, i1, isB, h0]
    · simp [List.countP_append, i2, isC, h0, begun]
    · simp [List.countP_append, i3, isE, h0, begun, over]
  · obtain ⟨j, d, hj, hd, ho⟩ := fits_at h0 hf
    rw [step_note _ h0 hj hd]
    obtain ⟨hjl, hdl⟩ := List.getElem?_eq_some_iff.1 hd
    have he : d.e = never := by simpa [over] using ho
    have hcom : d.com = false := by
      cases hh : d.com with
      | false => rfl
      | true => exact absurd he ((hok.1 d (List.mem_of_getElem? hd)).com hh)
    have hna : a.length ≠ never := by unfold never; omega
    have hset : ∀ (p : Cr → Bool) (c : Cr), p d = false → (l.set j c).countP p = l.countP p + if p c then 1 else 0 := fun p c hp => by
      rw [List.countP_set hjl, hdl, hp]; simp
    refine ⟨by rw [List.length_set, i1, List.countP_append]; simp [isB, h0], ?_, ?_⟩
    · rw [hset _ _ hcom, i2, List.countP_append]
      congr 1
      rcases fits_kd hf with h | h | h | h | h
      · exact absurd h h0
      · have : (note d a.length e).com = false := by unfold note; rw [if_pos h]; split <;> exact hcom
        simp [this, isC, h]
      · have : (note d a.length e).com = false := by unfold note; rw [if_neg (by omega), if_pos h]; exact hcom
        simp [this, isC, h]
      · simp [note, isC, h]
      · simp [note, isC, h]
    · rw [hset _ _ ho, i3, List.countP_append]
      congr 1
      rcases fits_kd hf with h | h | h | h | h
      · exact absurd h h0
      · have : over (note d a.length e) = false := by unfold note; rw [if_pos h]; split <;> exact ho
        simp [this, isE, h]
      · have : over (note d a.length e) = false := by unfold note; rw [if_neg (by omega), if_pos h]; exact ho
        simp [this, isE, h]
      · simp [note, isE, h, over, hna]
      · simp [note, isE, h, over, hna]
theorem ent_at {L : List Ev} {k : Nat} {c : Cr} (h : (crL L)[k]? = some c) : (entL L)[k]? = some (entC L k c) := by
  have hk := (List.getElem?_eq_some_iff.1 h).1
  unfold entL
  rw [List.getElem?_map, List.getElem?_range hk]
  show some (entF L (crL L) k) = _
  unfold entF
  rw [h]
theorem ent_len (L : List Ev) : (entL L).length = (crL L).length := by simp [entL]
theorem ent_com (L : List Ev) : (entL L).countP (·.com) = (crL L).countP (·.com) := by
  have : (entL L).map (·.com) = (crL L).map (·.com) := by
    apply List.ext_getElem?
    intro k
    rw [List.getElem?_map, List.getElem?_map]
    cases h : (crL L)[k]? with
    | none => rw [List.getElem?_eq_none (by rw [ent_len]; exact List.getElem?_eq_none_iff.1 h)]; rfl
    | some c => rw [ent_at h]; rfl
  have e1 := List.countP_map (p := fun b => b) (f := fun e : Ent => e.com) (l := entL L)
  have e2 := List.countP_map (p := fun b => b) (f := fun c : Cr => c.com) (l := crL L)
  rw [this] at e1
  exact e1.symm.trans e2
theorem ent_over (L : List Ev) : (entL L).countP (·.ovr) = (crL L).countP over := by
  have : (entL L).map (·.ovr) = (crL L).map over := by
    apply List.ext_getElem?
    intro k
    rw [List.getElem?_map, List.getElem?_map]
    cases h : (crL L)[k]? with
    | none => rw [List.getElem?_eq_none (by rw [ent_len]; exact List.getElem?_eq_none_iff.1 h)]; rfl
    | some c => rw [ent_at h]; rfl
  have e1 := List.countP_map (p := fun b => b) (f := fun e : Ent => e.ovr) (l := entL L)
  have e2 := List.countP_map (p := fun b => b) (f := over) (l := crL L)
  rw [this] at e1
  exact e1.symm.trans e2
theorem count_le {α : Type} (p : α → Bool) (l : List α) : l.countP p ≤ l.length := List.countP_le_length
/-- the events and the entries. -/
structure CS (w : World) (B : Option Addr) (L : List Ev) (D : Option Addr) (Y : List Xc) (E : List Ent) (W : World) : Prop where
  a : Rn.At encE W B L
  b : ItAt W D Y E
  bel : Below w.heap.size w W
theorem CS.below {w : World} {B : Option Addr} {L : List Ev} {D : Option Addr} {Y : List Xc} {E : List Ent} {W W' : World} (h : CS w B L D Y E W) (hb : Below W.heap.size W W') : CS w B L D Y E W' := ⟨at_below h.a hb, h.b.below hb (Nat.le_refl _), h.bel.trans (hb.mono h.bel.size)⟩
def CRel (w : World) (B : Option Addr) (L : List Ev) (D : Option Addr) (Y : List Xc) (E : List Ent) (v5 v6 v7 i : Value) (wr : World) : Prop :=
  ∃ k : Nat, k ≤ L.length ∧ v5 = .int .i64 ((L.take k).countP isB : Nat) ∧ v6 = .int .i64 ((L.take k).countP isC : Nat) ∧ v7 = .int .i64 ((L.take k).countP isE : Nat) ∧ i = .int .i64 k ∧ CS w B L D Y E wr
def DRel (w : World) (B : Option Addr) (L : List Ev) (D : Option Addr) (Y : List Xc) (E : List Ent) (v6 v7 i : Value) (wr : World) : Prop :=
  ∃ k : Nat, k ≤ E.length ∧ v6 = .int .i64 ((L.countP isC : Int) - ((E.take k).countP (·.com) : Nat)) ∧ v7 = .int .i64 ((L.countP isE : Int) - ((E.take k).countP (·.ovr) : Nat)) ∧ i = .int .i64 k ∧ CS w B L D Y E wr
theorem cnt_step {α : Type} (p : α → Bool) {l : List α} {k : Nat} {x : α} (h : l[k]? = some x) : (l.take (k + 1)).countP p = (l.take k).countP p + if p x then 1 else 0 := by
  obtain ⟨hl, rfl⟩ := List.getElem?_eq_some_iff.1 h
  rw [List.take_succ_eq_append_getElem hl, List.countP_append]
  simp
theorem wrap_int {z : Int} (h : -100000 ≤ z ∧ z ≤ 100000) : IntKind.i64.wrap z = z := by rw [IntKind.wrap_i64]; omega
set_option maxRecDepth 100000 in
set_option maxHeartbeats 8000000 in
theorem historyCounts_walk (A : Option Addr) (n c : Nat) (L : List Ev) (w : World) (h : EvArg w A n c L) :
    Calls Try.prog 7 #[.slice A n c] w fun e w' => e = .returned (.bool true) ∧ Below w.heap.size w w' := by
  obtain ⟨rfl, hnc, hcm, hat, hok⟩ := h
  have H := Lib.hid hat
  have HOK := Lib.hid hok
  have hN : (L.length : Int) ≤ 9223372036854775807 := by unfold maxLen at hcm; omega
  clear hat hok hnc hcm
  by_cases hl : L.length ≤ 120
  · have HL := Lib.hid (show L.length ≤ 2000 from by omega)
    have HL3 := Lib.hid (show L.length ≤ 300 from by omega)
    go_enter Try.func7, Try.ntmps7
    go_wp2_with fail
    refine (alive_any _).mono ?_
    rintro r w1 ⟨rfl, hb1⟩
    have HB1 := Lib.hid hb1
    have HA1 := Lib.hid (at_below H.out hb1)
    clear hb1
    go_wp2_with fail
    refine (theirs_any A c L _ HA1.out HL3.out).mono ?_
    rintro r w2 ⟨B2, d2, rfl, hn1, hn2, hat2, hb2⟩
    have HB2 := Lib.hid (HB1.out.trans (hb2.mono HB1.out.size))
    have HA2 := Lib.hid hat2
    clear hat2 hb2 hn1 hn2
    go_wp2_with fail
    refine (entries_any B2 d2 L _ HA2.out HOK.out HL.out).mono ?_
    rintro r w3 ⟨D, d3, Y, rfl, hn1, hn2, hit, hb3⟩
    have HCS3 := Lib.hid (show CS w B2 L D Y (entL L) w3 from ⟨at_below HA2.out hb3, hit, HB2.out.trans (hb3.mono HB2.out.size)⟩)
    clear hit hb3 hn1 hn2
    go_wp2_with fail
    refine (right_any B2 d2 L _ HCS3.out.a HOK.out HL.out).mono ?_
    rintro r w4 ⟨rfl, hb4⟩
    have HCS4 := Lib.hid (HCS3.out.below hb4)
    clear hb4
    cases hs : (crs L).isSome with
    | false =>
      have hz : (entL L).length = 0 := by
        rw [ent_len]
        unfold crL
        cases hc : crs L with
        | none => rfl
        | some l => rw [hc] at hs; cases hs
      rw [hz]
      clear hs hz
      go_wp2
      go_ret
      exact ⟨rfl, HCS4.out.bel⟩
    | true =>
      have HCN := Lib.hid (show Cn L (crL L) from by
        obtain ⟨l, hc⟩ := Option.isSome_iff_exists.1 hs
        have : crL L = l := by unfold crL; rw [hc]; rfl
        rw [this]
        exact run_cn (crs_some hc).2 HL.out)
      have HE32 := Lib.hid (show (entL L).length ≤ 32 from by rw [ent_len]; exact (crL_ok HL.out).2)
      clear hs
      go_wp2
      go_loopw [5, 6, 7, 29] (CRel w B2 L D Y (entL L)) (fun _ _ _ i _ => L.length - (intOf i).toNat)
      case atStart => exact ⟨0, Nat.zero_le _, rfl, rfl, rfl, rfl, HCS4.out⟩
      case round =>
        obtain ⟨k, hk, rfl, rfl, rfl, rfl, hcs⟩ := hrel
        have HCS := Lib.hid hcs
        clear hcs
        by_cases hlt : k < L.length
        · have hlt' : (k : Int) < (L.length : Int) := by omega
          have HKB := Lib.hid hlt
          have b5 := count_le isB (L.take k)
          have b6 := count_le isC (L.take k)
          have b7 := count_le isE (L.take k)
          rw [List.length_take] at b5 b6 b7
          generalize h5 : (L.take k).countP isB = nB at b5 ⊢
          generalize h6 : (L.take k).countP isC = nC at b6 ⊢
          generalize h7 : (L.take k).countP isE = nE at b7 ⊢
          have HN5 := Lib.hid h5
          have HN6 := Lib.hid h6
          have HN7 := Lib.hid h7
          have q5 : IntKind.i64.wrap ((nB : Int) + 1) = (nB : Int) + 1 := wrap_int (by omega)
          have q6 : IntKind.i64.wrap ((nC : Int) + 1) = (nC : Int) + 1 := wrap_int (by omega)
          have q7 : IntKind.i64.wrap ((nE : Int) + 1) = (nE : Int) + 1 := wrap_int (by omega)
          have he : L[k]? = some L[k] := List.getElem?_eq_getElem hlt
          generalize L[k] = e at he
          obtain ⟨ad, rfl, c0, c1, c2, c3, c4⟩ := atE HCS.out.a he
          have HE := Lib.hid he
          have HCS0 := Lib.hid (HCS.out.below (Rn.below_new wr (.cells (evA e) 64)))
          clear he h5 h6 h7 b5 b6 b7
          obtain ⟨kd, id, x, vk, vn⟩ := e
          dsimp only at c0 c1 c2 c3 c4
          unfold evA at HCS0
          dsimp only at HCS0
          by_cases h0 : kd = 0
          · subst h0
            have S5 := Lib.hid (show (L.take (k + 1)).countP isB = nB + 1 from by rw [cnt_step isB HE.out, HN5.out]; simp [isB])
            have S6 := Lib.hid (show (L.take (k + 1)).countP isC = nC from by rw [cnt_step isC HE.out, HN6.out]; simp [isC])
            have S7 := Lib.hid (show (L.take (k + 1)).countP isE = nE from by rw [cnt_step isE HE.out, HN7.out]; simp [isE])
            go_wp2
            go_round
            case rel => exact ⟨k + 1, by have := HKB.out; omega, by rw [S5.out]; rfl, by rw [S6.out], by rw [S7.out], by go_num, HCS0.out⟩
            case measure => simp [intOf]; have := HKB.out; omega
          · by_cases h3 : kd = 3
            · subst h3
              have S5 := Lib.hid (show (L.take (k + 1)).countP isB = nB from by rw [cnt_step isB HE.out, HN5.out]; simp [isB])
              have S6 := Lib.hid (show (L.take (k + 1)).countP isC = nC + 1 from by rw [cnt_step isC HE.out, HN6.out]; simp [isC])
              have S7 := Lib.hid (show (L.take (k + 1)).countP isE = nE + 1 from by rw [cnt_step isE HE.out, HN7.out]; simp [isE])
              go_wp2
              go_round
              case rel => exact ⟨k + 1, by have := HKB.out; omega, by rw [S5.out], by rw [S6.out]; rfl, by rw [S7.out]; rfl, by go_num, HCS0.out⟩
              case measure => simp [intOf]; have := HKB.out; omega
            · by_cases h4 : kd = 4
              · subst h4
                have S5 := Lib.hid (show (L.take (k + 1)).countP isB = nB from by rw [cnt_step isB HE.out, HN5.out]; simp [isB])
                have S6 := Lib.hid (show (L.take (k + 1)).countP isC = nC from by rw [cnt_step isC HE.out, HN6.out]; simp [isC])
                have S7 := Lib.hid (show (L.take (k + 1)).countP isE = nE + 1 from by rw [cnt_step isE HE.out, HN7.out]; simp [isE])
                go_wp2
                go_round
                case rel => exact ⟨k + 1, by have := HKB.out; omega, by rw [S5.out], by rw [S6.out], by rw [S7.out]; rfl, by go_num, HCS0.out⟩
                case measure => simp [intOf]; have := HKB.out; omega
              · skip
                have S5 := Lib.hid (show (L.take (k + 1)).countP isB = nB from by rw [cnt_step isB HE.out, HN5.out]; simp [isB, h0])
                have S6 := Lib.hid (show (L.take (k + 1)).countP isC = nC from by rw [cnt_step isC HE.out, HN6.out]; simp [isC, h3])
                have S7 := Lib.hid (show (L.take (k + 1)).countP isE = nE from by rw [cnt_step isE HE.out, HN7.out]; simp [isE, h3, h4])
                go_wp2
                go_round
                case rel => exact ⟨k + 1, by have := HKB.out; omega, by rw [S5.out], by rw [S6.out], by rw [S7.out], by go_num, HCS0.out⟩
                case measure => simp [intOf]; have := HKB.out; omega
        · have hlt' : ¬ (k : Int) < (L.length : Int) := by omega
          obtain rfl : k = L.length := by omega
          rw [List.take_length]
          have b6 := count_le isC L
          have b7 := count_le isE L
          have HB6 := Lib.hid b6
          have HB7 := Lib.hid b7
          have hEN : ((entL L).length : Int) ≤ 32 := by have := HE32.out; omega
          go_wp2
          go_loopw [6, 7, 52] (DRel w B2 L D Y (entL L)) (fun _ _ i _ => (entL L).length - (intOf i).toNat)
          case atStart => exact ⟨0, Nat.zero_le _, by simp, by simp, rfl, HCS.out⟩
          case round =>
            obtain ⟨j, hj, rfl, rfl, rfl, hcs⟩ := hrel
            have HCS := Lib.hid hcs
            clear hcs
            by_cases hlj : j < (entL L).length
            · have hlj' : (j : Int) < ((entL L).length : Int) := by omega
              have HJ := Lib.hid hlj
              have p6 := count_le (fun e : Ent => e.com) ((entL L).take j)
              have p7 := count_le (fun e : Ent => e.ovr) ((entL L).take j)
              rw [List.length_take] at p6 p7
              obtain ⟨ad, x, rfl, hyx, hxe, f0⟩ := it_at HCS.out.b hlj
              obtain ⟨c, hcc⟩ : ∃ c, (crL L)[j]? = some c := ⟨_, List.getElem?_eq_getElem (by rw [← ent_len]; exact hlj)⟩
              have hxx : x.e = entC L j c := Option.some.inj (hxe.symm.trans (ent_at hcc))
              have HXE := Lib.hid hxe
              obtain ⟨c0, c1, c2, c3, c4⟩ := f0
              rw [hxx] at c0 c1 c2 c3 c4
              unfold entC at c0 c1 c2 c3 c4
              dsimp only at c0 c1 c2 c3 c4
              have S6 := Lib.hid (show ((entL L).take (j + 1)).countP (·.com) = ((entL L).take j).countP (·.com) + if c.com then 1 else 0 from by rw [cnt_step (·.com) hxe, hxx]; rfl)
              have S7 := Lib.hid (show ((entL L).take (j + 1)).countP (·.ovr) = ((entL L).take j).countP (·.ovr) + if over c then 1 else 0 from by rw [cnt_step (·.ovr) hxe, hxx]; rfl)
              generalize ((entL L).take j).countP (·.com) = mC at *
              generalize ((entL L).take j).countP (·.ovr) = mE at *
              have q6 : IntKind.i64.wrap ((L.countP isC : Int) - (mC : Nat) - 1) = (L.countP isC : Int) - (mC : Nat) - 1 := wrap_int (by omega)
              have q7 : IntKind.i64.wrap ((L.countP isE : Int) - (mE : Nat) - 1) = (L.countP isE : Int) - (mE : Nat) - 1 := wrap_int (by omega)
              have qi : IntKind.i64.wrap ((j : Int) + 1) = (j : Int) + 1 := wrap_int (by omega)
              have HCS0 := Lib.hid (fun cs => HCS.out.below (Rn.below_new wr (.cells cs 67)))
              clear hyx hxe hcc hxx p6 p7
              generalize over c = ov at c2 S7
              generalize c.com = co at c1 S6
              cases co <;> cases ov
              all_goals
                go_wp2
                go_round
                case rel => exact ⟨j + 1, by have := HJ.out; omega, by rw [S6.out]; simp; try omega, by rw [S7.out]; simp; try omega, by go_num, HCS0.out _⟩
                case measure => simp [intOf]; have := HJ.out; omega
            · have hlj' : ¬ (j : Int) < ((entL L).length : Int) := by omega
              obtain rfl : j = (entL L).length := by omega
              rw [List.take_length]
              have z6 : (L.countP isC : Int) - ((entL L).countP (·.com) : Nat) = 0 := by rw [ent_com, HCN.out.c]; omega
              have z7 : (L.countP isE : Int) - ((entL L).countP (·.ovr) : Nat) = 0 := by rw [ent_over, HCN.out.e]; omega
              have zl : ((entL L).length : Int) = (L.countP isB : Nat) := by rw [ent_len, HCN.out.b]
              rw [z6, z7]
              have ZL := Lib.hid zl
              clear z6 z7 zl
              go_wp2
              go_ret
              exact ⟨Cx.ret_bool (by first | (simp; done) | (have := ZL.out; simp; omega)), HCS.out.bel⟩
  · have hl' : (L.length : Int) > 120 := by omega
    go_enter Try.func7, Try.ntmps7
    go_wp2_with fail
    refine (alive_any _).mono ?_
    rintro r w1 ⟨rfl, hb1⟩
    have HB1 := Lib.hid hb1
    clear hb1
    go_wp2
    go_ret
    exact ⟨rfl, HB1.out⟩
end Go.Proofs.Ytcfdndppkpjleaa.Hi
