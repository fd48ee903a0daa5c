/-
  What the statements share: the rows as the program holds them; answers that the document fixes.
-/
import Derived.Test.YtaonepbongbhoaaKI
namespace Go.Proofs.Ytaonepbongbhoaa.Hi
open Go.RowKit
open Tx (i64p)
open Rp (Ent Xc encX ItAt RdX)
theorem rev_info : (Try.prog.info? 57).map (fun i => (i.zero, i.size, i.bytes)) = some (some (.agg #[.int .i64 0, .int .i64 0, .int .i64 0, .int .i64 0, .int .i64 0]), 5, 40) := by kernel_rfl
def ThRel (L : List Ev) (w : World) (v i : Value) (wr : World) : Prop := ∃ k : Nat, k ≤ L.length ∧ i = .int .i64 k ∧ Rn.Own encE wr w.heap.size 53 v (L.take k) ∧ Below w.heap.size w wr
set_option maxHeartbeats 1000000 in
theorem theirs_any (A : Option Addr) (c : Nat) (L : List Ev) (w : World) (h : Rn.At encE w A L) (hl : L.length ≤ 300) :
    Calls Try.prog 7 #[.slice A L.length c] w (RowS encE L w) := by
  have H := Lib.hid h
  clear h
  have hN : (L.length : Int) ≤ 300 := by omega
  go_enter Try.func7, Try.ntmps7
  go_wp2
  go_loopw [3, 8] (ThRel L w) (fun _ i _ => L.length - (intOf i).toNat)
  case atStart => exact ⟨0, Nat.zero_le _, rfl, Rn.Own.nil _ _ _, Below.refl _ _⟩
  case round =>
    obtain ⟨k, hk, rfl, ho, hb⟩ := hrel
    have HO := Lib.hid ho
    have HB := Lib.hid hb
    clear ho hb
    by_cases hlt : k < L.length
    · have he : L[k]? = some L[k] := List.getElem?_eq_getElem hlt
      generalize L[k] = e at he
      obtain ⟨ad, rfl, c0, c1, c2, c3, c4⟩ := atE (H.out.below HB.out (Nat.le_refl _)) he
      have HV := Lib.hid he
      have HA := Lib.hid (Rn.At.new (E := encE) (wr.alloc (.cells (evA e) 57)) e (evA e) rfl 53 (g := wr.heap.size + 1) (by simp))
      clear he
      have hlt' : (k : Int) < (L.length : Int) := by omega
      unfold evA at HA
      go_wp2_with (at_builtin; refine Rn.append_row encE vtE rfl _ _ rfl rfl ((HO.out.alloc _).alloc _) _ _ [e] rfl rfl HA.out ?c1 ?c2 ?_)
      case c1 => simp; omega
      case c2 => have := HB.out.size; simp; omega
      intro v' w1 ho1 hb1 hs1
      have HO1 := Lib.hid ho1
      have HB1 := Lib.hid (((HB.out.alloc HB.out.size _).alloc (by have := HB.out.size; simp; omega) _).trans hb1)
      clear ho1 hb1
      go_wp2
      go_round
      case rel => exact ⟨k + 1, by omega, by go_num, by rw [Rn.step_take HV.out]; exact HO1.out, HB1.out⟩
      case measure => simp [intOf]; omega
    · have hlt' : ¬ (k : Int) < (L.length : Int) := by omega
      go_wp2
      go_ret
      have := HO.out
      rw [List.take_of_length_le (by omega)] at this
      obtain ⟨B, d, e1, e2, e3, e4, _⟩ := this.slice
      exact ⟨B, d, congrArg Ending.returned e1, e2, e3, e4, HB.out⟩
/- the row that the statements ask of first -/
def e1 : Ev := ⟨0, 1, 0, 0, 0⟩
def e2 : Ev := ⟨0, 2, 0, 0, 0⟩
def e3 : Ev := ⟨1, 1, 0, 1, 0⟩
def e4 : Ev := ⟨2, 2, 0, 1, 1⟩
def e5 : Ev := ⟨3, 2, 0, 0, 0⟩
def aL : List Ev := [e1, e2, e3, e4, e5]
def k1 : Cr := ⟨0, never, false, upd (fun _ => none) 0 2, fun _ => none⟩
def k2 : Cr := ⟨1, 4, true, fun _ => none, upd (fun _ => none) 0 3⟩
theorem aL_ok : ∀ e ∈ aL, e.ok := fun e he => by
  simp [aL] at he
  rcases he with rfl | rfl | rfl | rfl | rfl <;> refine ⟨⟨?_, ?_⟩, ⟨?_, ?_⟩, ⟨?_, ?_⟩, ⟨?_, ?_⟩, ⟨?_, ?_⟩⟩ <;> decide
theorem aL_crs : crs aL = some [k1, k2] := rfl
theorem aL_crL : crL aL = [k1, k2] := rfl
theorem aL_not : crs (aL.drop 1) = none := rfl
theorem aL_ents : entL aL = [⟨1, false, false, [⟨0, 1, 0, false⟩], []⟩, ⟨2, true, true, [], [⟨0, 1, 1, true⟩]⟩] := by
  show (List.range (crL aL).length).map _ = _
  rw [aL_crL]
  rfl
theorem aL_spans : spanL (crL aL) = [(cr k1, ci k1), (4607182418800017408, 4616189618054758400)] := by
  rw [aL_crL]
  show [(cr k1, ci k1), (cr k2, ci k2)] = _
  have h1 : cr k2 = 4607182418800017408 := by show Ieee.double.nearest false 1 0 = _; decide +kernel
  have h2 : ci k2 = 4616189618054758400 := by show Ieee.double.nearest false 4 0 = _; decide +kernel
  rw [h1, h2]
theorem aL_edges (i j : Nat) : Ge [k1, k2] i j ↔ i = 0 ∧ j = 1 := by
  have hs : src [k1, k2] 0 2 = -1 := rfl
  have h1 : ∀ x n, k1.rd x = some n → x = 0 ∧ n = 2 := fun x n h => by
    rcases upd_some (show upd (fun _ => none) 0 2 x = some n from h) with ⟨rfl, rfl⟩ | h
    · exact ⟨rfl, rfl⟩
    · cases h
  have hl1 : ∀ x, left k1 x = false := fun x => rfl
  have hget : ∀ (b : Nat) (c : Cr), [k1, k2][b]? = some c → (b = 0 ∧ c = k1) ∨ (b = 1 ∧ c = k2) := fun b c h => by
    rcases b with _ | _ | b
    · exact .inl ⟨rfl, (Option.some.inj h).symm⟩
    · exact .inr ⟨rfl, (Option.some.inj h).symm⟩
    · simp at h
  constructor
  · rintro ⟨b, c, hc, h⟩
    rcases hget b c hc with ⟨rfl, rfl⟩ | ⟨rfl, rfl⟩
    · rcases h with ⟨rfl, hi, d, hd, h⟩ | ⟨x, n, hr, h⟩
      · rcases hget i d hd with ⟨rfl, rfl⟩ | ⟨rfl, rfl⟩
        · exact absurd rfl hi
        · rcases h with h | ⟨_, x, h, _⟩
          · exact absurd h (by decide)
          · rw [hl1] at h; cases h
      · obtain ⟨rfl, rfl⟩ := h1 x n hr
        rcases h with ⟨rfl, h, _⟩ | ⟨rfl, hj, c, hc, h2, _⟩
        · rw [hs] at h; omega
        · rcases hget j c hc with ⟨rfl, rfl⟩ | ⟨rfl, rfl⟩
          · exact absurd rfl hj
          · exact ⟨rfl, rfl⟩
    · rcases h with ⟨rfl, hi, d, hd, h⟩ | ⟨x, n, hr, h⟩
      · rcases hget i d hd with ⟨rfl, rfl⟩ | ⟨rfl, rfl⟩
        · rcases h with h | ⟨h, _⟩
          · exact absurd h (by decide)
          · exact absurd h (by decide)
        · exact absurd rfl hi
      · cases hr
  · rintro ⟨rfl, rfl⟩
    exact ⟨0, k1, rfl, .inr ⟨0, 2, rfl, .inr ⟨rfl, by decide, k2, rfl, rfl, by decide⟩⟩⟩
theorem aL_m {m : Mm.Gr} (h : Is m (Ge (crL aL))) : m 0 = 2 ∧ m 1 = 0 := by
  rw [aL_crL] at h
  constructor
  · apply Nat.eq_of_testBit_eq
    intro j
    rw [Bool.eq_iff_iff, h.is 0 j (by decide), aL_edges]
    rcases j with _ | _ | j
    · simp
    · simp [Nat.testBit]
    · rw [Nat.testBit_lt_two_pow (show 2 < 2 ^ (j + 2) from Nat.lt_of_lt_of_le (by decide) (Nat.pow_le_pow_right (by decide) (show 2 ≤ j + 2 by omega)))]
      simp
  · apply Nat.eq_of_testBit_eq
    intro j
    rw [Bool.eq_iff_iff, h.is 1 j (by decide), aL_edges]
    simp
theorem ord_self {x n : Nat} (h : Fl.prt x = some n) : FloatKind.f64.format.order x x = some .eq := by
  have := Fl.ord_same h h
  simpa using this
theorem lit_part (n x : Nat) (h : n ≤ Fl.never) (e : Ieee.double.nearest false n 0 = x) : Fl.prt x = some n := by rw [← e]; exact Fl.part_nat h
theorem p1 : Fl.prt 4607182418800017408 = some 1 := lit_part 1 _ (by decide) (by decide +kernel)
theorem p4 : Fl.prt 4616189618054758400 = some 4 := lit_part 4 _ (by decide) (by decide +kernel)
/-- what the first question reads. -/
structure AlS (w : World) (q : Nat) (W : World) : Prop where
  bel : Below w.heap.size w W
  m0 : W.cell? ⟨q, 0, none⟩ = some (.int .u64 2)
  m1 : W.cell? ⟨q, 1, none⟩ = some (.int .u64 0)
theorem AlS.below {w : World} {q : Nat} {W W' : World} (h : AlS w q W) (hb : Below W.heap.size W W') : AlS w q W' := ⟨h.bel.trans (hb.mono h.bel.size), (hb.cell (Rn.cell_lt h.m0)).trans h.m0, (hb.cell (Rn.cell_lt h.m1)).trans h.m1⟩
def aLc : Array Value := #[.int .i64 0, .int .i64 1, .int .i64 0, .int .i64 0, .int .i64 0, .int .i64 0, .int .i64 2, .int .i64 0, .int .i64 0, .int .i64 0, .int .i64 1, .int .i64 1, .int .i64 0, .int .i64 1, .int .i64 0, .int .i64 2, .int .i64 2, .int .i64 0, .int .i64 1, .int .i64 1, .int .i64 3, .int .i64 2, .int .i64 0, .int .i64 0, .int .i64 0]
theorem aL_at (w : World) : Rn.At encE ((w.alloc (.cells #[.int .i64 1, .int .i64 1] 46)).alloc (.cells aLc 53)) (some ⟨w.heap.size + 1, 0, none⟩) aL :=
  ⟨fun _ => ⟨_, rfl, fun j u hu => by
    have hadd : (⟨w.heap.size + 1, 0, none⟩ : Addr).add j = ⟨w.heap.size + 1, j, none⟩ := by unfold Addr.add; split <;> simp_all
    rw [hadd, cell_of_row _ (w.heap.size + 1) j aLc 53 (0, 0) (heap_alloc2_new _ _ _)]
    have e : aLc.toList = Rn.flat encE aL := rfl
    rw [← e] at hu
    simpa using hu⟩⟩
theorem at_below {α : Type} {E : Rn.Enc α} {W W' : World} {A : Option Addr} {L : List α} (h : Rn.At E W A L) (hb : Below W.heap.size W W') : Rn.At E W' A L := h.below hb (Nat.le_refl _)
theorem it_at {W : World} {B : Option Addr} {Y : List Xc} {E : List Ent} (h : ItAt W B Y E) {j : Nat} (hj : j < E.length) : ∃ ad x, B = some ad ∧ Y[j]? = some x ∧ E[j]? = some x.e ∧ Rp.At5 W (ad.add (j * 5)) x := by
  obtain ⟨ad, x, h1, h2, h3, _, h4⟩ := h.at_ hj
  exact ⟨ad, x, h1, h2, h3, h4⟩
/-- a matrix that was handed back, in a box. -/
structure MB (w1 : World) (m : Mm.Gr) (W : World) : Prop where
  bx : MatAt W w1.heap.size m 36
  bel : Below w1.heap.size w1 W
theorem mat_box (w1 : World) (m : Mm.Gr) : MB w1 m ((w1.alloc (.cells #[Value.int .u64 0, Value.int .u64 0, Value.int .u64 0, Value.int .u64 0, Value.int .u64 0, Value.int .u64 0, Value.int .u64 0, Value.int .u64 0, Value.int .u64 0, Value.int .u64 0, Value.int .u64 0, Value.int .u64 0, Value.int .u64 0, Value.int .u64 0, Value.int .u64 0, Value.int .u64 0, Value.int .u64 0, Value.int .u64 0, Value.int .u64 0, Value.int .u64 0, Value.int .u64 0, Value.int .u64 0, Value.int .u64 0, Value.int .u64 0, Value.int .u64 0, Value.int .u64 0, Value.int .u64 0, Value.int .u64 0, Value.int .u64 0, Value.int .u64 0, Value.int .u64 0, Value.int .u64 0] 36)).setRow w1.heap.size (matA m)) :=
  ⟨setRow_heap _ _ _ _ _ _ (heap_alloc_new _ _), setRow_below (Rn.below_new _ _) (Nat.le_refl _)⟩
/-- a row of events that came in. -/
def EvArg (w : World) (A : Option Addr) (n c : Nat) (L : List Ev) : Prop := L.length = n ∧ n ≤ c ∧ c ≤ maxLen ∧ Rn.At encE w A L ∧ ∀ e ∈ L, e.ok
end Go.Proofs.Ytaonepbongbhoaa.Hi
