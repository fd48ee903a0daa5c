/-
  The contract of Graph.
-/
import Derived.Test.YtcfdndppkpjleaaHGr2
namespace Go.Proofs.Ytcfdndppkpjleaa.Hi
open Go.RowKit
open Tx (i64p)
open Az
theorem before_c {c d : Cr} (h1 : Gc c) (h2 : Gc d) {v : Bool} (hv : decide (c.e < d.b) = v) (w : World) : Calls Try.prog 28 #[.complex .f64 (cr c) (ci c), .complex .f64 (cr d) (ci d)] w fun e w' => e = .returned (.bool v) ∧ w = w' :=
  Cx.before_val _ _ _ _ _ _ v w h1.spn h2.spn (by rw [← hv]; rfl)
theorem matA_zeroL : matA zeroM = #[Value.int .u64 0, Value.int .u64 0, Value.int .u64 0, Value.int .u64 0, Value.int .u64 0, Value.int .u64 0, Value.int .u64 0, Value.int .u64 0, Value.int .u64 0, Value.int .u64 0, Value.int .u64 0, Value.int .u64 0, Value.int .u64 0, Value.int .u64 0, Value.int .u64 0, Value.int .u64 0, Value.int .u64 0, Value.int .u64 0, Value.int .u64 0, Value.int .u64 0, Value.int .u64 0, Value.int .u64 0, Value.int .u64 0, Value.int .u64 0, Value.int .u64 0, Value.int .u64 0, Value.int .u64 0, Value.int .u64 0, Value.int .u64 0, Value.int .u64 0, Value.int .u64 0, Value.int .u64 0] := matA_zero.trans rfl
/-- the result's box, the matrix, the courses. -/
structure GT (w : World) (B : Option Addr) (X : List Co) (q : Nat) (m : Mm.Gr) (W : World) : Prop where
  re : MatAt W w.heap.size zeroM 50
  bx : MatAt W q m 50
  rc : RdC W B X
  bel : Below w.heap.size w W
section
variable {w : World} {B : Option Addr} {X : List Co} {q : Nat} {m : Mm.Gr}
theorem GT.below {W W' : World} (h : GT w B X q m W) (hb : Below W.heap.size W W') : GT w B X q m W' := ⟨h.re.below hb, h.bx.below hb, h.rc.below hb, h.bel.trans (hb.mono h.bel.size)⟩
theorem GT.drew {W : World} (h : GT w B X q m W) : GT w B X q m W.drew := h.below (Below.refl _ _).drew
theorem GT.put {W w1 : World} {m' : Mm.Gr} (h : GT w B X q m W) (h0 : RdC w1 B X) (hb1 : Below w1.heap.size w1 W) (hq : w1.heap.size ≤ q) (hw : w.heap.size < q) : GT w B X q m' (W.setRow q (matA m')) ∧ Below w1.heap.size w1 (W.setRow q (matA m')) :=
  ⟨⟨h.re.setRow _ (by omega), matAt_put h.bx, h0.below (setRow_below hb1 hq), setRow_below h.bel (by omega)⟩, setRow_below hb1 hq⟩
end
/-- the edges of those whose turn was; of k with the first a. -/
def Gk (l : List Cr) (k : Nat) (i j : Nat) : Prop := ∃ b, b < k ∧ Eb l b i j
def Ga (l : List Cr) (k a : Nat) (i j : Nat) : Prop := ∃ c, l[k]? = some c ∧ j = k ∧ i ≠ k ∧ i < a ∧ ∃ d, l[i]? = some d ∧ (d.e < c.b ∨ OvW c d)
theorem Ga_skip {l : List Cr} {k a : Nat} {m : Mm.Gr} {G : Nat → Nat → Prop} {c d : Cr} (h : Is m (fun i j => G i j ∨ Ga l k a i j)) (hc : l[k]? = some c) (hd : l[a]? = some d) (hno : ¬ (d.e < c.b ∨ OvW c d)) : Is m (fun i j => G i j ∨ Ga l k (a + 1) i j) := by
  refine h.congr fun i j _ => or_congr_right ?_
  unfold Ga
  constructor
  · rintro ⟨c', h1, h2, h3, h4, h5⟩; exact ⟨c', h1, h2, h3, by omega, h5⟩
  · rintro ⟨c', h1, h2, h3, h4, d', h5, h6⟩
    refine ⟨c', h1, h2, h3, ?_, d', h5, h6⟩
    rcases Nat.lt_or_ge i a with hi | hi
    · exact hi
    · obtain rfl : i = a := by omega
      rw [hd] at h5; rw [hc] at h1
      obtain rfl := Option.some.inj h5
      obtain rfl := Option.some.inj h1
      exact absurd h6 hno
theorem Ga_more {l : List Cr} {k a : Nat} {m : Mm.Gr} {G : Nat → Nat → Prop} {c d : Cr} (h : Is m (fun i j => G i j ∨ Ga l k a i j)) (hc : l[k]? = some c) (hd : l[a]? = some d) (hyes : d.e < c.b ∨ OvW c d) (ha : (a : Int) < 32) (hk : (k : Int) < 32) : Is (putE m (a : Nat) (k : Nat)) (fun i j => G i j ∨ Ga l k (a + 1) i j) := by
  refine (h.putE (a : Nat) (k : Nat) ha ⟨by omega, hk⟩).congr fun i j _ => ?_
  rw [or_assoc]
  refine or_congr_right ?_
  unfold Ga
  constructor
  · rintro (⟨c', h1, h2, h3, h4, h5⟩ | ⟨h1, h2, h3⟩)
    · exact ⟨c', h1, h2, h3, by omega, h5⟩
    · obtain rfl : i = a := by omega
      obtain rfl : j = k := by omega
      exact ⟨c, hc, rfl, by omega, Nat.lt_succ_self _, d, hd, hyes⟩
  · rintro ⟨c', h1, h2, h3, h4, h5⟩
    rcases Nat.lt_or_ge i a with hi | hi
    · exact .inl ⟨c', h1, h2, h3, hi, h5⟩
    · obtain rfl : i = a := by omega
      exact .inr ⟨rfl, by omega, by omega⟩
theorem Gk_more {l : List Cr} {k : Nat} {c : Cr} (hc : l[k]? = some c) (i j : Nat) : ((Gk l k i j ∨ Ga l k l.length i j) ∨ ∃ x n, c.rd x = some n ∧ Ed l k x n i j) ↔ Gk l (k + 1) i j := by
  unfold Gk Ga
  constructor
  · rintro ((⟨b, h1, h2⟩ | ⟨c', h1, h2, h3, h4, h5⟩) | h)
    · exact ⟨b, by omega, h2⟩
    · exact ⟨k, Nat.lt_succ_self _, c', h1, .inl ⟨h2, h3, h5⟩⟩
    · exact ⟨k, Nat.lt_succ_self _, c, hc, .inr h⟩
  · rintro ⟨b, h1, h2⟩
    rcases Nat.lt_or_ge b k with hb | hb
    · exact .inl (.inl ⟨b, hb, h2⟩)
    · obtain rfl : b = k := by omega
      obtain ⟨c', h3, h4⟩ := h2
      rw [hc] at h3
      obtain rfl := Option.some.inj h3
      rcases h4 with ⟨h5, h6, d, h7, h8⟩ | h4
      · exact .inl (.inr ⟨c, hc, h5, h6, (List.getElem?_eq_some_iff.1 h7).1, d, h7, h8⟩)
      · exact .inr h4
theorem Gk_all (l : List Cr) (i j : Nat) : Gk l l.length i j ↔ Ge l i j := by
  unfold Gk Ge
  constructor
  · rintro ⟨b, _, h⟩; exact ⟨b, h⟩
  · rintro ⟨b, c, hc, h⟩; exact ⟨b, (List.getElem?_eq_some_iff.1 hc).1, c, hc, h⟩
def GoRel (w : World) (B : Option Addr) (X : List Co) (q : Nat) (w1 : World) (i : Value) (wr : World) : Prop := ∃ k m, k ≤ X.length ∧ i = .int .i64 (k : Nat) ∧ GT w B X q m wr ∧ Below w1.heap.size w1 wr ∧ Is m (Gk (cs X) k)
def GnRel (w : World) (B : Option Addr) (X : List Co) (q : Nat) (w1 : World) (k : Nat) (i : Value) (wr : World) : Prop := ∃ a m, a ≤ X.length ∧ i = .int .i64 (a : Nat) ∧ GT w B X q m wr ∧ Below w1.heap.size w1 wr ∧ Is m (fun i j => Gk (cs X) k i j ∨ Ga (cs X) k a i j)
def GrPost (L : List Ev) (w : World) (r : Ending) (w' : World) : Prop := ∃ m, r = .returned (.tuple #[.agg (matA m), .bool (crs L).isSome]) ∧ Is m (Ge (crL L)) ∧ Below w.heap.size w w'
/-- the matrix, and what was there when it was made. -/
structure GU (w : World) (B : Option Addr) (X : List Co) (q : Nat) (w1 : World) (m : Mm.Gr) (W : World) : Prop where
  gt : GT w B X q m W
  be : Below w1.heap.size w1 W
theorem GU.below {w : World} {B : Option Addr} {X : List Co} {q : Nat} {w1 : World} {m : Mm.Gr} {W W' : World} (h : GU w B X q w1 m W) (hb : Below W.heap.size W W') : GU w B X q w1 m W' := ⟨h.gt.below hb, h.be.trans (hb.mono h.be.size)⟩
theorem GU.drew {w : World} {B : Option Addr} {X : List Co} {q : Nat} {w1 : World} {m : Mm.Gr} {W : World} (h : GU w B X q w1 m W) : GU w B X q w1 m W.drew := h.below (Below.refl _ _).drew
set_option maxRecDepth 100000 in
set_option maxHeartbeats 8000000 in
theorem graph_any (A : Option Addr) (c : Nat) (L : List Ev) (w : World) (h : Rn.At encE w A L) (hok : ∀ e ∈ L, e.ok) (hl : L.length ≤ 2000) :
    Calls Try.prog 25 #[.slice A L.length c] w (GrPost L w) := by
  have HC := Lib.hid (courses_s A c L (w.alloc (.cells #[Value.int .u64 0, Value.int .u64 0, Value.int .u64 0, Value.int .u64 0, Value.int .u64 0, Value.int .u64 0, Value.int .u64 0, Value.int .u64 0, Value.int .u64 0, Value.int .u64 0, Value.int .u64 0, Value.int .u64 0, Value.int .u64 0, Value.int .u64 0, Value.int .u64 0, Value.int .u64 0, Value.int .u64 0, Value.int .u64 0, Value.int .u64 0, Value.int .u64 0, Value.int .u64 0, Value.int .u64 0, Value.int .u64 0, Value.int .u64 0, Value.int .u64 0, Value.int .u64 0, Value.int .u64 0, Value.int .u64 0, Value.int .u64 0, Value.int .u64 0, Value.int .u64 0, Value.int .u64 0] 50)) (h.alloc _) hok hl)
  have HZM := Lib.hid (show MatAt (w.alloc (.cells #[Value.int .u64 0, Value.int .u64 0, Value.int .u64 0, Value.int .u64 0, Value.int .u64 0, Value.int .u64 0, Value.int .u64 0, Value.int .u64 0, Value.int .u64 0, Value.int .u64 0, Value.int .u64 0, Value.int .u64 0, Value.int .u64 0, Value.int .u64 0, Value.int .u64 0, Value.int .u64 0, Value.int .u64 0, Value.int .u64 0, Value.int .u64 0, Value.int .u64 0, Value.int .u64 0, Value.int .u64 0, Value.int .u64 0, Value.int .u64 0, Value.int .u64 0, Value.int .u64 0, Value.int .u64 0, Value.int .u64 0, Value.int .u64 0, Value.int .u64 0, Value.int .u64 0, Value.int .u64 0] 50)) w.heap.size zeroM 50 from zero_lit w 50)
  have HB0 := Lib.hid (Rn.below_new w (.cells #[Value.int .u64 0, Value.int .u64 0, Value.int .u64 0, Value.int .u64 0, Value.int .u64 0, Value.int .u64 0, Value.int .u64 0, Value.int .u64 0, Value.int .u64 0, Value.int .u64 0, Value.int .u64 0, Value.int .u64 0, Value.int .u64 0, Value.int .u64 0, Value.int .u64 0, Value.int .u64 0, Value.int .u64 0, Value.int .u64 0, Value.int .u64 0, Value.int .u64 0, Value.int .u64 0, Value.int .u64 0, Value.int .u64 0, Value.int .u64 0, Value.int .u64 0, Value.int .u64 0, Value.int .u64 0, Value.int .u64 0, Value.int .u64 0, Value.int .u64 0, Value.int .u64 0, Value.int .u64 0] 50))
  have HOKL := Lib.hid (crL_okL hl)
  have HLL := Lib.hid hl
  clear h hok
  unfold GrPost
  generalize hcr : (crs L).isSome = b at HC ⊢
  have HCR := Lib.hid hcr
  clear hcr
  go_enter Try.func25, Try.ntmps25
  go_wp2_with fail
  refine HC.out.mono ?_
  rintro r w1 ⟨B, d, X, rfl, hX, h1, h2, hr, he, hb⟩
  have HB1 := Lib.hid (HB0.out.trans (hb.mono HB0.out.size))
  have HR := Lib.hid hr
  have HE := Lib.hid he
  have HX := Lib.hid hX
  have HZ1 := Lib.hid (HZM.out.below hb)
  have HS1 := Lib.hid (show w.heap.size < w1.heap.size from by have := hb.size; rw [Rn.size_new] at this; omega)
  have hXN : (X.length : Int) ≤ 32 := by omega
  clear hb he hr hX
  rw [HCR.out]
  cases b with
  | false =>
    have HLE := Lib.hid (show Is zeroM (Ge (crL L)) from by
      have e : crL L = [] := by
        unfold crL
        cases hc : crs L with
        | none => rfl
        | some l => have := HCR.out; rw [hc] at this; cases this
      rw [e]
      exact Is.zero.congr fun i j _ => ⟨fun h => h.elim, fun ⟨b, c, h, _⟩ => by simp at h⟩)
    go_wp2_with (refine wpList_store_row rfl 50 (.tmp 2) (.tmp 16) rfl w.heap.size #[Value.int .u64 0, Value.int .u64 0, Value.int .u64 0, Value.int .u64 0, Value.int .u64 0, Value.int .u64 0, Value.int .u64 0, Value.int .u64 0, Value.int .u64 0, Value.int .u64 0, Value.int .u64 0, Value.int .u64 0, Value.int .u64 0, Value.int .u64 0, Value.int .u64 0, Value.int .u64 0, Value.int .u64 0, Value.int .u64 0, Value.int .u64 0, Value.int .u64 0, Value.int .u64 0, Value.int .u64 0, Value.int .u64 0, Value.int .u64 0, Value.int .u64 0, Value.int .u64 0, Value.int .u64 0, Value.int .u64 0, Value.int .u64 0, Value.int .u64 0, Value.int .u64 0, Value.int .u64 0] rfl rfl 50 _ HZ1.out (by rw [← matA_zeroL]; exact matInfo _) (by rw [← matA_zeroL]) (by rw [← matA_zeroL]; exact matA_one _) ?_)
    refine bodyPost_ret (results_row_tmp rfl _ _ w.heap.size 50 #[Value.int .u64 0, Value.int .u64 0, Value.int .u64 0, Value.int .u64 0, Value.int .u64 0, Value.int .u64 0, Value.int .u64 0, Value.int .u64 0, Value.int .u64 0, Value.int .u64 0, Value.int .u64 0, Value.int .u64 0, Value.int .u64 0, Value.int .u64 0, Value.int .u64 0, Value.int .u64 0, Value.int .u64 0, Value.int .u64 0, Value.int .u64 0, Value.int .u64 0, Value.int .u64 0, Value.int .u64 0, Value.int .u64 0, Value.int .u64 0, Value.int .u64 0, Value.int .u64 0, Value.int .u64 0, Value.int .u64 0, Value.int .u64 0, Value.int .u64 0, Value.int .u64 0, Value.int .u64 0] (0, 0) _ _ (.bool false) rfl rfl (setRow_heap _ _ _ _ _ _ HZ1.out) Try.underlying50 (by rw [← matA_zeroL]; exact matInfo _)) rfl ⟨zeroM, by rw [matA_zeroL], HLE.out, ?_⟩
    exact setRow_below HB1.out (Nat.le_refl _)
  | true =>
    have HT0 := Lib.hid (show GT w B X w1.heap.size zeroM (w1.alloc (.cells #[Value.int .u64 0, Value.int .u64 0, Value.int .u64 0, Value.int .u64 0, Value.int .u64 0, Value.int .u64 0, Value.int .u64 0, Value.int .u64 0, Value.int .u64 0, Value.int .u64 0, Value.int .u64 0, Value.int .u64 0, Value.int .u64 0, Value.int .u64 0, Value.int .u64 0, Value.int .u64 0, Value.int .u64 0, Value.int .u64 0, Value.int .u64 0, Value.int .u64 0, Value.int .u64 0, Value.int .u64 0, Value.int .u64 0, Value.int .u64 0, Value.int .u64 0, Value.int .u64 0, Value.int .u64 0, Value.int .u64 0, Value.int .u64 0, Value.int .u64 0, Value.int .u64 0, Value.int .u64 0] 50)) from ⟨HZ1.out.alloc _, zero_lit w1 50, HR.out.below (Rn.below_new _ _), HB1.out.alloc HB1.out.size _⟩)
    have HT1 := Lib.hid (Rn.below_new w1 (.cells #[Value.int .u64 0, Value.int .u64 0, Value.int .u64 0, Value.int .u64 0, Value.int .u64 0, Value.int .u64 0, Value.int .u64 0, Value.int .u64 0, Value.int .u64 0, Value.int .u64 0, Value.int .u64 0, Value.int .u64 0, Value.int .u64 0, Value.int .u64 0, Value.int .u64 0, Value.int .u64 0, Value.int .u64 0, Value.int .u64 0, Value.int .u64 0, Value.int .u64 0, Value.int .u64 0, Value.int .u64 0, Value.int .u64 0, Value.int .u64 0, Value.int .u64 0, Value.int .u64 0, Value.int .u64 0, Value.int .u64 0, Value.int .u64 0, Value.int .u64 0, Value.int .u64 0, Value.int .u64 0] 50))
    have HQ := Lib.hid (show w1.heap.size ≤ w1.heap.size ∧ w.heap.size < w1.heap.size from ⟨Nat.le_refl _, HS1.out⟩)
    have HR1 := Lib.hid HR.out
    clear HR HS1 HZ1 HZM HB0
    go_wp2
    generalize w1.alloc (.cells #[Value.int .u64 0, Value.int .u64 0, Value.int .u64 0, Value.int .u64 0, Value.int .u64 0, Value.int .u64 0, Value.int .u64 0, Value.int .u64 0, Value.int .u64 0, Value.int .u64 0, Value.int .u64 0, Value.int .u64 0, Value.int .u64 0, Value.int .u64 0, Value.int .u64 0, Value.int .u64 0, Value.int .u64 0, Value.int .u64 0, Value.int .u64 0, Value.int .u64 0, Value.int .u64 0, Value.int .u64 0, Value.int .u64 0, Value.int .u64 0, Value.int .u64 0, Value.int .u64 0, Value.int .u64 0, Value.int .u64 0, Value.int .u64 0, Value.int .u64 0, Value.int .u64 0, Value.int .u64 0] 50) = W1 at HT0 HT1 ⊢
    generalize hq : w1.heap.size = q at HT0 HQ ⊢
    have HQE := Lib.hid hq
    clear hq
    go_loopw [19] (GoRel w B X q w1) (fun i _ => X.length - (intOf i).toNat)
    case atStart => exact ⟨0, _, Nat.zero_le _, rfl, HT0.out, HT1.out, Is.zero.congr fun i j _ => ⟨fun h => h.elim, fun ⟨b, h, _⟩ => by omega⟩⟩
    case round =>
      obtain ⟨k, m, hk, rfl, hgt, hbe, his⟩ := hrel
      have HG0 := Lib.hid hgt
      have HBE := Lib.hid hbe
      have HI0 := Lib.hid his
      clear hgt hbe his
      by_cases hlt : k < X.length
      · have hlt' : (k : Int) < (X.length : Int) := by omega
        have hy : X[k]? = some X[k] := List.getElem?_eq_getElem hlt
        generalize hYY : X[k] = y at hy
        have HKB := Lib.hid hlt
        have HKN := Lib.hid hlt'
        have HY := Lib.hid hy
        have HCY := Lib.hid (cs_at hy)
        have HMY := Lib.hid (List.mem_of_getElem? hy)
        have HGY := Lib.hid (HR1.out.gc y HMY.out)
        have HOY := Lib.hid (show Okc L.length y.c from HOKL.out _ (by rw [← HE.out]; exact List.mem_map_of_mem HMY.out))
        have HFY := Lib.hid (show ∀ v n, y.c.wr v = some n → 0 ≤ v ∧ v < 64 from fun v n h => by have := HOY.out.wr v n h; omega)
        obtain ⟨ad, rfl, _⟩ := atC HR1.out.row hy
        clear hy hYY
        go_wp2
        go_loopw [24] (GnRel w (some ad) X q w1 k) (fun i _ => X.length - (intOf i).toNat)
        case atStart => exact ⟨0, _, Nat.zero_le _, rfl, HG0.out, HBE.out, HI0.out.congr fun i j _ => ⟨fun h => .inl h, fun h => h.elim id (fun ⟨_, _, _, _, h, _⟩ => by omega)⟩⟩
        case round =>
          obtain ⟨a, m, ha, rfl, hgt, hbe, his⟩ := hrel
          have HU := Lib.hid (show GU w (some ad) X q w1 m wr from ⟨hgt, hbe⟩)
          have HI := Lib.hid his
          clear hgt hbe his
          by_cases hla : a < X.length
          · have hla' : (a : Int) < (X.length : Int) := by omega
            have hz : X[a]? = some X[a] := List.getElem?_eq_getElem hla
            generalize hZZ : X[a] = z at hz
            have HAB := Lib.hid hla
            have HAN := Lib.hid hla'
            have HZ := Lib.hid hz
            have HCZ := Lib.hid (cs_at hz)
            have HMZ := Lib.hid (List.mem_of_getElem? hz)
            have HGZ := Lib.hid (HR1.out.gc z HMZ.out)
            clear hz hZZ
            cases hbf : decide (z.c.e < y.c.b) with
            | true =>
              have HBF := Lib.hid hbf
              clear hbf
              go_wp2
              refine wp_region_noPanic ?_
              refine region_z 22 (fun W => GU w (some ad) X q w1 m W) 22 1000 rfl (by kernel_rfl) (by exact HU.out.drew) (fun hHeld => ?_)
              refine take_d [2, 3, 4, 10, 11, 12, 13, 14, 15, 16, 17, 18, 19, 20, 21] 0 27 (.slice (some ad) X.length d) rfl rfl (by kernel_rfl) (by kernel_rfl) (by kernel_rfl) (by kernel_rfl) (fun _ _ _ h => h) (Or.inl ⟨by rfl, by intro W hW; clear hW; go_simp⟩) hHeld ?_
              simp only [put_laws]
              refine take_d [2, 3, 4, 10, 11, 12, 13, 14, 15, 16, 17, 18, 19, 20, 21] 1 28 (.int .i64 (a : Nat)) rfl rfl (by kernel_rfl) (by kernel_rfl) (by kernel_rfl) (by kernel_rfl) (fun _ _ _ h => h) (Or.inl ⟨by rfl, by intro W hW; clear hW; go_simp⟩) hHeld ?_
              simp only [put_laws]
              refine take_d [3, 4, 10, 11, 12, 13, 14, 15, 16, 17, 18, 19, 20, 21] 2 29 (.pointer (some (ad.add (a * 4)))) rfl rfl (by kernel_rfl) (by kernel_rfl) (by kernel_rfl) (by kernel_rfl) (fun _ _ _ h => h) (Or.inl ⟨by rfl, by intro W hW; have h1 := HAB.out; have h2 := HAN.out; clear hW; go_simp⟩) hHeld ?_
              simp only [put_laws]
              refine take_d [4, 10, 11, 12, 13, 14, 15, 16, 17, 18, 19, 20, 21] 3 30 (.pointer (some (ad.add (a * 4)))) rfl rfl (by kernel_rfl) (by kernel_rfl) (by kernel_rfl) (by kernel_rfl) (fun _ _ _ h => h) (Or.inl ⟨by rfl, by intro W hW; clear hW; go_simp⟩) hHeld ?_
              simp only [put_laws]
              refine take_d [10, 11, 12, 13, 14, 15, 16, 17, 18, 19, 20, 21] 4 31 (.complex .f64 (cr z.c) (ci z.c)) rfl rfl (by kernel_rfl) (by kernel_rfl) (by kernel_rfl) (by kernel_rfl) (fun _ _ _ h => h) (Or.inl ⟨by rfl, by intro W hW; have hh := atC hW.gt.rc.row HZ.out; obtain ⟨ad2, e2, hh⟩ := hh; have e2 := Option.some.inj e2; subst e2; obtain ⟨z0, z1, z2, z3⟩ := hh; clear hW; go_simp⟩) hHeld ?_
              simp only [put_laws]
              refine take_d [7, 8, 9, 10, 11, 12, 13, 14, 15, 16, 17, 18, 19, 20, 21] 5 32 (.slice (some ad) X.length d) rfl rfl (by kernel_rfl) (by kernel_rfl) (by kernel_rfl) (by kernel_rfl) (fun _ _ _ h => h) (Or.inl ⟨by rfl, by intro W hW; clear hW; go_simp⟩) hHeld ?_
              simp only [put_laws]
              refine take_d [7, 8, 9, 10, 11, 12, 13, 14, 15, 16, 17, 18, 19, 20, 21] 6 33 (.int .i64 (k : Nat)) rfl rfl (by kernel_rfl) (by kernel_rfl) (by kernel_rfl) (by kernel_rfl) (fun _ _ _ h => h) (Or.inl ⟨by rfl, by intro W hW; clear hW; go_simp⟩) hHeld ?_
              simp only [put_laws]
              refine take_d [8, 9, 10, 11, 12, 13, 14, 15, 16, 17, 18, 19, 20, 21] 7 34 (.pointer (some (ad.add (k * 4)))) rfl rfl (by kernel_rfl) (by kernel_rfl) (by kernel_rfl) (by kernel_rfl) (fun _ _ _ h => h) (Or.inl ⟨by rfl, by intro W hW; have h1 := HKB.out; have h2 := HKN.out; clear hW; go_simp⟩) hHeld ?_
              simp only [put_laws]
              refine take_d [9, 10, 11, 12, 13, 14, 15, 16, 17, 18, 19, 20, 21] 8 35 (.pointer (some (ad.add (k * 4)))) rfl rfl (by kernel_rfl) (by kernel_rfl) (by kernel_rfl) (by kernel_rfl) (fun _ _ _ h => h) (Or.inl ⟨by rfl, by intro W hW; clear hW; go_simp⟩) hHeld ?_
              simp only [put_laws]
              refine take_d [10, 11, 12, 13, 14, 15, 16, 17, 18, 19, 20, 21] 9 36 (.complex .f64 (cr y.c) (ci y.c)) rfl rfl (by kernel_rfl) (by kernel_rfl) (by kernel_rfl) (by kernel_rfl) (fun _ _ _ h => h) (Or.inl ⟨by rfl, by intro W hW; have hh := atC hW.gt.rc.row HY.out; obtain ⟨ad2, e2, hh⟩ := hh; have e2 := Option.some.inj e2; subst e2; obtain ⟨z0, z1, z2, z3⟩ := hh; clear hW; go_simp⟩) hHeld ?_
              simp only [put_laws]
              refine anyZ_ready (rs := [10]) (by kernel_rfl) (by simp) ?_
              refine AllZ.cons rfl (fun K hK => ?_) AllZ.nil
              go_simp
              refine (before_c HGZ.out HGY.out HBF.out _).mono ?_
              rintro e w2 ⟨rfl, rfl⟩
              try go_simp
              have hPrev := hHeld
              have hHeld := hPrev
              clear hPrev
              refine hK.out _ _ hHeld (fun hHeld => ?_)
              clear hK K
              refine take_d [12, 13, 14, 15, 16, 17, 18, 19, 20, 21] 11 38 (.bool true) rfl rfl (by kernel_rfl) (by kernel_rfl) (by kernel_rfl) (by kernel_rfl) (fun _ _ _ h => h) (Or.inl ⟨by rfl, by intro W hW; clear hW; go_simp⟩) hHeld ?_
              simp only [put_laws]
              refine take_d [14, 15, 20, 21] 12 39 undef rfl rfl (by kernel_rfl) (by kernel_rfl) (by kernel_rfl) (by kernel_rfl) (fun _ _ _ h => h) (Or.inr ⟨by rfl, rfl⟩) hHeld ?_
              simp only [put_laws]
              refine take_d [14, 15, 20, 21] 13 40 undef rfl rfl (by kernel_rfl) (by kernel_rfl) (by kernel_rfl) (by kernel_rfl) (fun _ _ _ h => h) (Or.inr ⟨by rfl, rfl⟩) hHeld ?_
              simp only [put_laws]
              refine take_d [15, 20, 21] 14 41 undef rfl rfl (by kernel_rfl) (by kernel_rfl) (by kernel_rfl) (by kernel_rfl) (fun _ _ _ h => h) (Or.inr ⟨by rfl, rfl⟩) hHeld ?_
              simp only [put_laws]
              refine take_d [20, 21] 15 42 undef rfl rfl (by kernel_rfl) (by kernel_rfl) (by kernel_rfl) (by kernel_rfl) (fun _ _ _ h => h) (Or.inr ⟨by rfl, rfl⟩) hHeld ?_
              simp only [put_laws]
              refine take_d [18, 19, 20, 21] 16 43 undef rfl rfl (by kernel_rfl) (by kernel_rfl) (by kernel_rfl) (by kernel_rfl) (fun _ _ _ h => h) (Or.inr ⟨by rfl, rfl⟩) hHeld ?_
              simp only [put_laws]
              refine take_d [18, 19, 20, 21] 17 44 undef rfl rfl (by kernel_rfl) (by kernel_rfl) (by kernel_rfl) (by kernel_rfl) (fun _ _ _ h => h) (Or.inr ⟨by rfl, rfl⟩) hHeld ?_
              simp only [put_laws]
              refine take_d [19, 20, 21] 18 45 undef rfl rfl (by kernel_rfl) (by kernel_rfl) (by kernel_rfl) (by kernel_rfl) (fun _ _ _ h => h) (Or.inr ⟨by rfl, rfl⟩) hHeld ?_
              simp only [put_laws]
              refine take_d [20, 21] 19 46 undef rfl rfl (by kernel_rfl) (by kernel_rfl) (by kernel_rfl) (by kernel_rfl) (fun _ _ _ h => h) (Or.inr ⟨by rfl, rfl⟩) hHeld ?_
              simp only [put_laws]
              refine take_d [21] 20 47 undef rfl rfl (by kernel_rfl) (by kernel_rfl) (by kernel_rfl) (by kernel_rfl) (fun _ _ _ h => h) (Or.inr ⟨by rfl, rfl⟩) hHeld ?_
              simp only [put_laws]
              refine take_d [] 21 48 (.bool true) rfl rfl (by kernel_rfl) (by kernel_rfl) (by kernel_rfl) (by kernel_rfl) (fun _ _ _ h => h) (Or.inl ⟨by rfl, by intro W hW; clear hW; go_simp⟩) hHeld ?_
              simp only [put_laws]
              refine anyZ_done (by kernel_rfl) ?_ _
              refine NoPanic.normal ?_
              have HU2 := Lib.hid hHeld
              have HI2 := Lib.hid (Ga_more HI.out HCY.out HCZ.out (.inl (by simpa using HBF.out)) (by omega) (by omega))
              clear hHeld
              go_wp2_with (refine wpList_load_row rfl 50 (.tmp 6) rfl q rfl 50 (matA m) (0, 0) _ HU2.out.gt.bx Try.underlying50 rfl (matInfo m) ?_)
              refine (put_any m (a : Nat) (k : Nat) _ HI.out.ok ⟨by omega, by omega⟩ ⟨by omega, by omega⟩).mono ?_
              rintro r w4 ⟨⟨cc, rfl⟩, hb4⟩
              have HU3 := Lib.hid (HU2.out.below hb4)
              clear hb4
              go_wp2_with (refine wpList_store_row rfl 50 (.tmp 6) (.tmp 54) rfl q (matA (putE m (a : Nat) (k : Nat))) rfl rfl 50 _ HU3.out.gt.bx (matInfo _) (by rw [matA_size, matA_size]) (matA_one _) ?_)
              have HU4 := Lib.hid (HU3.out.gt.put (m' := putE m (a : Nat) (k : Nat)) HR1.out HU3.out.be (by rw [HQE.out]; exact Nat.le_refl _) HQ.out.2)
              generalize World.setRow _ q (matA (putE m (a : Nat) (k : Nat))) = w5 at HU4 ⊢
              go_wp2
              go_roundw
              case rel => exact ⟨a + 1, _, by have := HAB.out; omega, by go_num, HU4.out.1, HU4.out.2, HI2.out⟩
              case measure => simp [intOf]; have := HAB.out; omega
            | false =>
              have HBF := Lib.hid hbf
              clear hbf
              go_wp2
              refine wp_region_noPanic ?_
              refine region_z 22 (fun W => GU w (some ad) X q w1 m W) 22 1000 rfl (by kernel_rfl) (by exact HU.out.drew) (fun hHeld => ?_)
              refine take_d [2, 3, 4, 10, 11, 12, 13, 14, 15, 16, 17, 18, 19, 20, 21] 0 27 (.slice (some ad) X.length d) rfl rfl (by kernel_rfl) (by kernel_rfl) (by kernel_rfl) (by kernel_rfl) (fun _ _ _ h => h) (Or.inl ⟨by rfl, by intro W hW; clear hW; go_simp⟩) hHeld ?_
              simp only [put_laws]
              refine take_d [2, 3, 4, 10, 11, 12, 13, 14, 15, 16, 17, 18, 19, 20, 21] 1 28 (.int .i64 (a : Nat)) rfl rfl (by kernel_rfl) (by kernel_rfl) (by kernel_rfl) (by kernel_rfl) (fun _ _ _ h => h) (Or.inl ⟨by rfl, by intro W hW; clear hW; go_simp⟩) hHeld ?_
              simp only [put_laws]
              refine take_d [3, 4, 10, 11, 12, 13, 14, 15, 16, 17, 18, 19, 20, 21] 2 29 (.pointer (some (ad.add (a * 4)))) rfl rfl (by kernel_rfl) (by kernel_rfl) (by kernel_rfl) (by kernel_rfl) (fun _ _ _ h => h) (Or.inl ⟨by rfl, by intro W hW; have h1 := HAB.out; have h2 := HAN.out; clear hW; go_simp⟩) hHeld ?_
              simp only [put_laws]
              refine take_d [4, 10, 11, 12, 13, 14, 15, 16, 17, 18, 19, 20, 21] 3 30 (.pointer (some (ad.add (a * 4)))) rfl rfl (by kernel_rfl) (by kernel_rfl) (by kernel_rfl) (by kernel_rfl) (fun _ _ _ h => h) (Or.inl ⟨by rfl, by intro W hW; clear hW; go_simp⟩) hHeld ?_
              simp only [put_laws]
              refine take_d [10, 11, 12, 13, 14, 15, 16, 17, 18, 19, 20, 21] 4 31 (.complex .f64 (cr z.c) (ci z.c)) rfl rfl (by kernel_rfl) (by kernel_rfl) (by kernel_rfl) (by kernel_rfl) (fun _ _ _ h => h) (Or.inl ⟨by rfl, by intro W hW; have hh := atC hW.gt.rc.row HZ.out; obtain ⟨ad2, e2, hh⟩ := hh; have e2 := Option.some.inj e2; subst e2; obtain ⟨z0, z1, z2, z3⟩ := hh; clear hW; go_simp⟩) hHeld ?_
              simp only [put_laws]
              refine take_d [7, 8, 9, 10, 11, 12, 13, 14, 15, 16, 17, 18, 19, 20, 21] 5 32 (.slice (some ad) X.length d) rfl rfl (by kernel_rfl) (by kernel_rfl) (by kernel_rfl) (by kernel_rfl) (fun _ _ _ h => h) (Or.inl ⟨by rfl, by intro W hW; clear hW; go_simp⟩) hHeld ?_
              simp only [put_laws]
              refine take_d [7, 8, 9, 10, 11, 12, 13, 14, 15, 16, 17, 18, 19, 20, 21] 6 33 (.int .i64 (k : Nat)) rfl rfl (by kernel_rfl) (by kernel_rfl) (by kernel_rfl) (by kernel_rfl) (fun _ _ _ h => h) (Or.inl ⟨by rfl, by intro W hW; clear hW; go_simp⟩) hHeld ?_
              simp only [put_laws]
              refine take_d [8, 9, 10, 11, 12, 13, 14, 15, 16, 17, 18, 19, 20, 21] 7 34 (.pointer (some (ad.add (k * 4)))) rfl rfl (by kernel_rfl) (by kernel_rfl) (by kernel_rfl) (by kernel_rfl) (fun _ _ _ h => h) (Or.inl ⟨by rfl, by intro W hW; have h1 := HKB.out; have h2 := HKN.out; clear hW; go_simp⟩) hHeld ?_
              simp only [put_laws]
              refine take_d [9, 10, 11, 12, 13, 14, 15, 16, 17, 18, 19, 20, 21] 8 35 (.pointer (some (ad.add (k * 4)))) rfl rfl (by kernel_rfl) (by kernel_rfl) (by kernel_rfl) (by kernel_rfl) (fun _ _ _ h => h) (Or.inl ⟨by rfl, by intro W hW; clear hW; go_simp⟩) hHeld ?_
              simp only [put_laws]
              refine take_d [10, 11, 12, 13, 14, 15, 16, 17, 18, 19, 20, 21] 9 36 (.complex .f64 (cr y.c) (ci y.c)) rfl rfl (by kernel_rfl) (by kernel_rfl) (by kernel_rfl) (by kernel_rfl) (fun _ _ _ h => h) (Or.inl ⟨by rfl, by intro W hW; have hh := atC hW.gt.rc.row HY.out; obtain ⟨ad2, e2, hh⟩ := hh; have e2 := Option.some.inj e2; subst e2; obtain ⟨z0, z1, z2, z3⟩ := hh; clear hW; go_simp⟩) hHeld ?_
              simp only [put_laws]
              refine anyZ_ready (rs := [10]) (by kernel_rfl) (by simp) ?_
              refine AllZ.cons rfl (fun K hK => ?_) AllZ.nil
              go_simp
              refine (before_c HGZ.out HGY.out HBF.out _).mono ?_
              rintro e w2 ⟨rfl, rfl⟩
              try go_simp
              have hPrev := hHeld
              have hHeld := hPrev
              clear hPrev
              refine hK.out _ _ hHeld (fun hHeld => ?_)
              clear hK K
              refine take_d [12, 13, 14, 15, 16, 17, 18, 19, 20, 21] 11 38 (.bool false) rfl rfl (by kernel_rfl) (by kernel_rfl) (by kernel_rfl) (by kernel_rfl) (fun _ _ _ h => h) (Or.inl ⟨by rfl, by intro W hW; clear hW; go_simp⟩) hHeld ?_
              simp only [put_laws]
              refine take_d [14, 15, 20, 21] 12 39 (.slice (some ad) X.length d) rfl rfl (by kernel_rfl) (by kernel_rfl) (by kernel_rfl) (by kernel_rfl) (fun _ _ _ h => h) (Or.inl ⟨by rfl, by intro W hW; clear hW; go_simp⟩) hHeld ?_
              simp only [put_laws]
              refine take_d [14, 15, 20, 21] 13 40 (.int .i64 (k : Nat)) rfl rfl (by kernel_rfl) (by kernel_rfl) (by kernel_rfl) (by kernel_rfl) (fun _ _ _ h => h) (Or.inl ⟨by rfl, by intro W hW; clear hW; go_simp⟩) hHeld ?_
              simp only [put_laws]
              refine take_d [15, 20, 21] 14 41 (.pointer (some (ad.add (k * 4)))) rfl rfl (by kernel_rfl) (by kernel_rfl) (by kernel_rfl) (by kernel_rfl) (fun _ _ _ h => h) (Or.inl ⟨by rfl, by intro W hW; have h1 := HKB.out; have h2 := HKN.out; clear hW; go_simp⟩) hHeld ?_
              simp only [put_laws]
              refine take_d [20, 21] 15 42 (.agg (#[.complex .f64 (cr y.c) (ci y.c), .bool y.c.com, .map (some y.rb), .map (some y.wb)])) rfl rfl (by kernel_rfl) (by kernel_rfl) (by kernel_rfl) (by kernel_rfl) (fun _ _ _ h => h) (Or.inl ⟨by rfl, by intro W hW; have hh := atC hW.gt.rc.row HY.out; obtain ⟨ad2, e2, hh⟩ := hh; have e2 := Option.some.inj e2; subst e2; obtain ⟨z0, z1, z2, z3⟩ := hh; clear hW; go_simp⟩) hHeld ?_
              simp only [put_laws]
              refine take_d [18, 19, 20, 21] 16 43 (.slice (some ad) X.length d) rfl rfl (by kernel_rfl) (by kernel_rfl) (by kernel_rfl) (by kernel_rfl) (fun _ _ _ h => h) (Or.inl ⟨by rfl, by intro W hW; clear hW; go_simp⟩) hHeld ?_
              simp only [put_laws]
              refine take_d [18, 19, 20, 21] 17 44 (.int .i64 (a : Nat)) rfl rfl (by kernel_rfl) (by kernel_rfl) (by kernel_rfl) (by kernel_rfl) (fun _ _ _ h => h) (Or.inl ⟨by rfl, by intro W hW; clear hW; go_simp⟩) hHeld ?_
              simp only [put_laws]
              refine take_d [19, 20, 21] 18 45 (.pointer (some (ad.add (a * 4)))) rfl rfl (by kernel_rfl) (by kernel_rfl) (by kernel_rfl) (by kernel_rfl) (fun _ _ _ h => h) (Or.inl ⟨by rfl, by intro W hW; have h1 := HAB.out; have h2 := HAN.out; clear hW; go_simp⟩) hHeld ?_
              simp only [put_laws]
              refine take_d [20, 21] 19 46 (.agg (#[.complex .f64 (cr z.c) (ci z.c), .bool z.c.com, .map (some z.rb), .map (some z.wb)])) rfl rfl (by kernel_rfl) (by kernel_rfl) (by kernel_rfl) (by kernel_rfl) (fun _ _ _ h => h) (Or.inl ⟨by rfl, by intro W hW; have hh := atC hW.gt.rc.row HZ.out; obtain ⟨ad2, e2, hh⟩ := hh; have e2 := Option.some.inj e2; subst e2; obtain ⟨z0, z1, z2, z3⟩ := hh; clear hW; go_simp⟩) hHeld ?_
              simp only [put_laws]
              refine anyZ_ready (rs := [20]) (by kernel_rfl) (by simp) ?_
              refine AllZ.cons rfl (fun K hK => ?_) AllZ.nil
              go_simp
              refine (overwrites_any y z _ HGY.out HGZ.out (hHeld.gt.rc.mp y HMY.out).2 (hHeld.gt.rc.mp z HMZ.out).2 HFY.out).mono ?_
              rintro e w3 ⟨bo, rfl, hiff, hb⟩
              try go_simp
              have hPrev := hHeld
              have hHeld := hHeld.below hb
              clear hPrev
              refine hK.out _ _ hHeld (fun hHeld => ?_)
              clear hK K
              refine take_d [] 21 48 (.bool bo) rfl rfl (by kernel_rfl) (by kernel_rfl) (by kernel_rfl) (by kernel_rfl) (fun _ _ _ h => h) (Or.inl ⟨by rfl, by intro W hW; clear hW; go_simp⟩) hHeld ?_
              simp only [put_laws]
              refine anyZ_done (by kernel_rfl) ?_ _
              refine NoPanic.normal ?_
              have HU2 := Lib.hid hHeld
              clear hHeld
              cases bo with
              | true =>
                have HI2 := Lib.hid (Ga_more HI.out HCY.out HCZ.out (.inr (hiff.1 rfl)) (by omega) (by omega))
                clear hiff
                go_wp2_with (refine wpList_load_row rfl 50 (.tmp 6) rfl q rfl 50 (matA m) (0, 0) _ HU2.out.gt.bx Try.underlying50 rfl (matInfo m) ?_)
                refine (put_any m (a : Nat) (k : Nat) _ HI.out.ok ⟨by omega, by omega⟩ ⟨by omega, by omega⟩).mono ?_
                rintro r w4 ⟨⟨cc, rfl⟩, hb4⟩
                have HU3 := Lib.hid (HU2.out.below hb4)
                clear hb4
                go_wp2_with (refine wpList_store_row rfl 50 (.tmp 6) (.tmp 54) rfl q (matA (putE m (a : Nat) (k : Nat))) rfl rfl 50 _ HU3.out.gt.bx (matInfo _) (by rw [matA_size, matA_size]) (matA_one _) ?_)
                have HU4 := Lib.hid (HU3.out.gt.put (m' := putE m (a : Nat) (k : Nat)) HR1.out HU3.out.be (by rw [HQE.out]; exact Nat.le_refl _) HQ.out.2)
                generalize World.setRow _ q (matA (putE m (a : Nat) (k : Nat))) = w5 at HU4 ⊢
                go_wp2
                go_roundw
                case rel => exact ⟨a + 1, _, by have := HAB.out; omega, by go_num, HU4.out.1, HU4.out.2, HI2.out⟩
                case measure => simp [intOf]; have := HAB.out; omega
              | false =>
                have HI2 := Lib.hid (Ga_skip HI.out HCY.out HCZ.out (fun h => h.elim (fun h => by have := HBF.out; simp at this; omega) (fun h => by have := hiff.2 h; cases this)))
                clear hiff
                go_wp2
                go_roundw
                case rel => exact ⟨a + 1, _, by have := HAB.out; omega, by go_num, HU2.out.gt, HU2.out.be, HI2.out⟩
                case measure => simp [intOf]; have := HAB.out; omega
          · have hla' : ¬ (a : Int) < (X.length : Int) := by omega
            obtain rfl : a = X.length := by omega
            go_wp2_with (refine wpList_load_row rfl 50 (.tmp 6) rfl q rfl 50 (matA m) (0, 0) _ HU.out.gt.bx Try.underlying50 rfl (matInfo m) ?_)
            refine (beside_any (some ad) d X k y m _ _ HU.out.gt.rc HX.out HY.out HI.out (fun v n h => by have := HOY.out.rd v n h; have := HLL.out; omega)).mono ?_
            rintro r w4 ⟨m2, rfl, his2, hb4⟩
            have HU3 := Lib.hid (HU.out.below hb4)
            have HI3 := Lib.hid (show Is m2 (Gk (cs X) (k + 1)) from his2.congr fun i j _ => by rw [← Gk_more HCY.out, cs_len])
            clear his2 hb4
            go_wp2_with (refine wpList_store_row rfl 50 (.tmp 6) (.tmp 60) rfl q (matA m2) rfl rfl 50 _ HU3.out.gt.bx (matInfo _) (by rw [matA_size, matA_size]) (matA_one _) ?_)
            have HU4 := Lib.hid (HU3.out.gt.put (m' := m2) HR1.out HU3.out.be (by rw [HQE.out]; exact Nat.le_refl _) HQ.out.2)
            generalize World.setRow _ q (matA m2) = w5 at HU4 ⊢
            go_wp2
            go_roundw
            case rel => exact ⟨k + 1, _, by have := HKB.out; omega, by go_num, HU4.out.1, HU4.out.2, HI3.out⟩
            case measure => simp [intOf]; have := HKB.out; omega
      · have hlt' : ¬ (k : Int) < (X.length : Int) := by omega
        obtain rfl : k = X.length := by omega
        have HIE := Lib.hid (show Is m (Ge (crL L)) from HI0.out.congr fun i j _ => by rw [← HE.out, ← Gk_all, cs_len])
        go_wp2_with (first
          | (refine wpList_load_row rfl 50 (.tmp 6) rfl q rfl 50 (matA m) (0, 0) _ HG0.out.bx Try.underlying50 rfl (matInfo m) ?_)
          | (refine wpList_store_row rfl 50 (.tmp 2) (.tmp 62) rfl w.heap.size (matA m) rfl rfl 50 _ HG0.out.re (matInfo m) (by rw [matA_size, matA_size]) (matA_one _) ?_))
        refine bodyPost_ret (results_row_tmp rfl _ _ w.heap.size 50 (matA m) (0, 0) _ _ (.bool true) rfl rfl (setRow_heap _ _ _ _ _ _ HG0.out.re) Try.underlying50 (matInfo _)) rfl ⟨m, rfl, HIE.out, ?_⟩
        exact setRow_below HG0.out.bel (Nat.le_refl _)
end Go.Proofs.Ytcfdndppkpjleaa.Hi
