/-
  The graph of a row of courses, in plain mathematics.
  Contracts of left, source and overwrites.
  Contracts of Put, said at once, and of besideWriters.
  The contract of Graph.
-/
import Derived.Test.YtaonepbongbhoaaKA
import Derived.Test.YtaonepbongbhoaaKH
import Derived.Test.YtaonepbongbhoaaKE
namespace Go.Proofs.Ytaonepbongbhoaa.Hi
def left (c : Cr) (x : Int) : Bool := c.com && (c.wr x).isSome
/-- committed behind another one with a write of the same variable. -/
def OvW (c d : Cr) : Prop := d.e < c.e ∧ ∃ x, left c x = true ∧ left d x = true
/-- of the first k the last one that was committed with a write of x ahead of n. -/
def srcTo (l : List Cr) (x : Int) (n : Nat) : Nat → Int
  | 0 => -1
  | k + 1 => match l[k]? with
    | some c => if left c x = true ∧ c.e ≤ n then (if srcTo l x n k = -1 then (k : Int) else match l[(srcTo l x n k).toNat]? with
        | some d => if d.e < c.e then (k : Int) else srcTo l x n k
        | none => srcTo l x n k) else srcTo l x n k
    | none => srcTo l x n k
def src (l : List Cr) (x : Int) (n : Nat) : Int := srcTo l x n l.length
/-- what is known of the one that was found. -/
structure Hit (l : List Cr) (x : Int) (n k : Nat) (a : Nat) (c : Cr) : Prop where
  at_ : l[a]? = some c
  lt : a < k
  left : left c x = true
  le : c.e ≤ n
  top : ∀ (i : Nat) (d : Cr), i < k → l[i]? = some d → Hi.left d x = true → d.e ≤ n → d.e ≤ c.e
theorem srcTo_spec (l : List Cr) (x : Int) (n : Nat) : ∀ k, k ≤ l.length → (srcTo l x n k = -1 ∧ ∀ (i : Nat) (d : Cr), i < k → l[i]? = some d → ¬ (left d x = true ∧ d.e ≤ n)) ∨ ∃ (a : Nat) (c : Cr), srcTo l x n k = (a : Int) ∧ Hit l x n k a c
  | 0, _ => .inl ⟨rfl, fun i d h => by omega⟩
  | k + 1, hk => by
    have hc : l[k]? = some l[k] := List.getElem?_eq_getElem (by omega)
    generalize l[k] = c at hc
    have hn : ∀ i : Nat, i < k + 1 → i < k ∨ i = k := fun i h => by omega
    rcases srcTo_spec l x n k (by omega) with ⟨h0, h1⟩ | ⟨a, d, h0, h1⟩
    · by_cases h : left c x = true ∧ c.e ≤ n
      · refine .inr ⟨k, c, ?_, hc, Nat.lt_succ_self _, h.1, h.2, fun i d hi hd hl he => ?_⟩
        · unfold srcTo; rw [hc]; simp only; rw [if_pos h, if_pos h0]
        · rcases hn i hi with hi | rfl
          · exact absurd ⟨hl, he⟩ (h1 i d hi hd)
          · rw [hc] at hd; rw [Option.some.inj hd]; exact Nat.le_refl _
      · refine .inl ⟨?_, fun i d hi hd => ?_⟩
        · unfold srcTo; rw [hc]; simp only; rw [if_neg h]; exact h0
        · rcases hn i hi with hi | rfl
          · exact h1 i d hi hd
          · rw [hc] at hd; rw [← Option.some.inj hd]; exact h
    · have hne : ¬ srcTo l x n k = -1 := by omega
      have ha : l[(srcTo l x n k).toNat]? = some d := by rw [h0]; exact h1.at_
      by_cases h : left c x = true ∧ c.e ≤ n
      · by_cases hlt : d.e < c.e
        · refine .inr ⟨k, c, ?_, hc, Nat.lt_succ_self _, h.1, h.2, fun i d' hi hd hl he => ?_⟩
          · unfold srcTo; rw [hc]; simp only; rw [if_pos h, if_neg hne, ha]; simp only; rw [if_pos hlt]
          · rcases hn i hi with hi | rfl
            · have := h1.top i d' hi hd hl he; omega
            · rw [hc] at hd; rw [Option.some.inj hd]; exact Nat.le_refl _
        · refine .inr ⟨a, d, ?_, h1.at_, Nat.lt_succ_of_lt h1.lt, h1.left, h1.le, fun i d' hi hd hl he => ?_⟩
          · unfold srcTo; rw [hc]; simp only; rw [if_pos h, if_neg hne, ha]; simp only; rw [if_neg hlt]; exact h0
          · rcases hn i hi with hi | rfl
            · exact h1.top i d' hi hd hl he
            · rw [hc] at hd; rw [← Option.some.inj hd]; omega
      · refine .inr ⟨a, d, ?_, h1.at_, Nat.lt_succ_of_lt h1.lt, h1.left, h1.le, fun i d' hi hd hl he => ?_⟩
        · unfold srcTo; rw [hc]; simp only; rw [if_neg h]; exact h0
        · rcases hn i hi with hi | rfl
          · exact h1.top i d' hi hd hl he
          · rw [hc] at hd; rw [← Option.some.inj hd] at hl he; exact absurd ⟨hl, he⟩ h
/-- the edges that a read of b brings. -/
def Ed (l : List Cr) (b : Nat) (x : Int) (n : Nat) (i j : Nat) : Prop := (j = b ∧ (i : Int) = src l x n ∧ i ≠ b) ∨ (i = b ∧ j ≠ b ∧ ∃ c, l[j]? = some c ∧ left c x = true ∧ n < c.e)
/-- the edges of b. -/
def Eb (l : List Cr) (b : Nat) (i j : Nat) : Prop := ∃ c, l[b]? = some c ∧ ((j = b ∧ i ≠ b ∧ ∃ d, l[i]? = some d ∧ (d.e < c.b ∨ OvW c d)) ∨ ∃ x n, c.rd x = some n ∧ Ed l b x n i j)
def Ge (l : List Cr) (i j : Nat) : Prop := ∃ b, Eb l b i j
/-- the matrix has just these edges. -/
structure Is (m : Mm.Gr) (G : Nat → Nat → Prop) : Prop where
  ok : Mm.Ok m
  is : ∀ i j, i < 32 → ((m i).testBit j = true ↔ G i j)
theorem Is.congr {m : Mm.Gr} {G H : Nat → Nat → Prop} (h : Is m G) (e : ∀ i j, i < 32 → (G i j ↔ H i j)) : Is m H := ⟨h.ok, fun i j hi => (h.is i j hi).trans (e i j hi)⟩
theorem Is.zero : Is (fun _ => 0) (fun _ _ => False) := ⟨fun _ _ => by decide, fun i j _ => by simp⟩
theorem Is.put {m : Mm.Gr} {G : Nat → Nat → Prop} (h : Is m G) {a b : Nat} (hb : b < 32) : Is (Mm.put m a b) (fun i j => G i j ∨ (i = a ∧ j = b)) := by
  refine ⟨Mm.put_ok a b h.ok, fun i j hi => ?_⟩
  unfold Mm.put
  by_cases e : i = a
  · rw [if_pos e, Sm.add_test, Bool.or_eq_true, decide_eq_true_eq, h.is i j hi]
    constructor
    · rintro (h | h)
      · exact .inl h
      · exact .inr ⟨e, by omega⟩
    · rintro (h | ⟨_, rfl⟩)
      · exact .inl h
      · exact .inr ⟨by omega, by omega, rfl⟩
  · rw [if_neg e, h.is i j hi]
    exact ⟨fun h => .inl h, fun h => h.elim id (fun h => absurd h.1 e)⟩
/-- what the call makes of an edge that is asked for. -/
def putE (m : Mm.Gr) (a b : Int) : Mm.Gr := if 0 ≤ a ∧ a < 32 ∧ 0 ≤ b ∧ b < 32 ∧ a ≠ b then Mm.put m a.toNat b.toNat else m
theorem Is.putE {m : Mm.Gr} {G : Nat → Nat → Prop} (h : Is m G) (a b : Int) (ha : a < 32) (hb : 0 ≤ b ∧ b < 32) : Is (putE m a b) (fun i j => G i j ∨ ((i : Int) = a ∧ (j : Int) = b ∧ a ≠ b)) := by
  unfold Hi.putE
  by_cases e : 0 ≤ a ∧ a < 32 ∧ 0 ≤ b ∧ b < 32 ∧ a ≠ b
  · rw [if_pos e]
    refine (h.put (b := b.toNat) (by omega)).congr fun i j _ => ?_
    constructor
    · rintro (h | ⟨h1, h2⟩)
      · exact .inl h
      · exact .inr ⟨by omega, by omega, e.2.2.2.2⟩
    · rintro (h | ⟨h1, h2, _⟩)
      · exact .inl h
      · exact .inr ⟨by omega, by omega⟩
  · rw [if_neg e]
    refine h.congr fun i j _ => ⟨fun h => .inl h, ?_⟩
    rintro (h | ⟨h1, h2, h3⟩)
    · exact h
    · exact absurd ⟨by omega, ha, hb.1, hb.2, h3⟩ e
end Go.Proofs.Ytaonepbongbhoaa.Hi
namespace Go.Proofs.Ytaonepbongbhoaa.Hi
open Go.RowKit
open Tx (i64p)
open Az
set_option maxHeartbeats 1000000 in
theorem left_any (x : Co) (v : Int) (w : World) (hv : i64p v) (hm : ∃ sz, NM w x.wb 2000 sz x.c.wr) : Calls Try.prog 49 #[.agg (coA x), .int .i64 v] w fun r w' => r = .returned (.bool (left x.c v)) ∧ Below w.heap.size w w' := by
  obtain ⟨sz, hm⟩ := hm
  have hl := (hm.alloc (.cells (coA x) 71)).look hv
  unfold left
  generalize (x.c.wr v).isSome = b at *
  unfold coA at hl ⊢
  cases hc : x.c.com with
  | true =>
    rw [hc] at hl
    go_enter Try.func49, Try.ntmps49
    go_wp2
    go_ret
    exact ⟨rfl, Rn.below_new _ _⟩
  | false =>
    rw [hc] at hl
    go_enter Try.func49, Try.ntmps49
    go_wp2
    go_ret
    exact ⟨rfl, Rn.below_new _ _⟩
theorem left_val (x : Co) (v : Int) (w : World) {b : Bool} (hv : i64p v) (hm : ∃ sz, NM w x.wb 2000 sz x.c.wr) (hb : left x.c v = b) : Calls Try.prog 49 #[.agg (coA x), .int .i64 v] w fun r w' => r = .returned (.bool b) ∧ Below w.heap.size w w' := hb ▸ left_any x v w hv hm
theorem end_val {c : Cr} {z : Int} (h : Gc c) (hz : (c.e : Int) = z) (w : World) : Calls Try.prog 48 #[.complex .f64 (cr c) (ci c)] w fun e w' => e = .returned (.int .i64 z) ∧ w = w' := hz ▸ end_c h w
/-- a course's box, the courses, and all that lay there. -/
structure Bx (w : World) (B : Option Addr) (X : List Co) (q : Nat) (x : Co) (W : World) : Prop where
  c0 : W.cell? ⟨q, 0, none⟩ = some (.complex .f64 (cr x.c) (ci x.c))
  c1 : W.cell? ⟨q, 1, none⟩ = some (.bool x.c.com)
  c2 : W.cell? ⟨q, 2, none⟩ = some (.map (some x.rb))
  c3 : W.cell? ⟨q, 3, none⟩ = some (.map (some x.wb))
  rc : RdC W B X
  bel : Below w.heap.size w W
section
variable {w : World} {B : Option Addr} {X : List Co} {q : Nat} {x : Co}
theorem Bx.below {W W' : World} (h : Bx w B X q x W) (hb : Below W.heap.size W W') : Bx w B X q x W' :=
  ⟨(hb.cell (Rn.cell_lt h.c0)).trans h.c0, (hb.cell (Rn.cell_lt h.c1)).trans h.c1, (hb.cell (Rn.cell_lt h.c2)).trans h.c2, (hb.cell (Rn.cell_lt h.c3)).trans h.c3, h.rc.below hb, h.bel.trans (hb.mono h.bel.size)⟩
theorem Bx.drew {W : World} (h : Bx w B X q x W) : Bx w B X q x W.drew := h.below (Below.refl _ _).drew
theorem Bx.new {W : World} (hr : RdC W B X) (hb : Below w.heap.size w W) (x : Co) : Bx w B X W.heap.size x (W.alloc (.cells (coA x) 71)) := by
  have hbx := heap_alloc_new W (.cells (coA x) 71)
  exact ⟨cell_of_row _ _ 0 _ _ _ hbx, cell_of_row _ _ 1 _ _ _ hbx, cell_of_row _ _ 2 _ _ _ hbx, cell_of_row _ _ 3 _ _ _ hbx, hr.below (Rn.below_new _ _), hb.alloc hb.size _⟩
end
theorem srcTo_skip {l : List Cr} {x : Int} {n k : Nat} {c : Cr} (hc : l[k]? = some c) (h : ¬ (left c x = true ∧ c.e ≤ n)) : srcTo l x n (k + 1) = srcTo l x n k := by
  conv => lhs; unfold srcTo
  rw [hc]; simp only; rw [if_neg h]
theorem srcTo_first {l : List Cr} {x : Int} {n k : Nat} {c : Cr} (hc : l[k]? = some c) (h : left c x = true ∧ c.e ≤ n) (h0 : srcTo l x n k = -1) : srcTo l x n (k + 1) = (k : Int) := by
  conv => lhs; unfold srcTo
  rw [hc]; simp only; rw [if_pos h, if_pos h0]
theorem srcTo_turn {l : List Cr} {x : Int} {n k a : Nat} {c d : Cr} (hc : l[k]? = some c) (h : left c x = true ∧ c.e ≤ n) (h0 : srcTo l x n k = (a : Int)) (hd : l[a]? = some d) : srcTo l x n (k + 1) = if d.e < c.e then (k : Int) else (a : Int) := by
  conv => lhs; unfold srcTo
  rw [hc]; simp only
  rw [if_pos h, if_neg (by omega), h0, show ((a : Int)).toNat = a by omega, hd]
def SrcRel (w : World) (B : Option Addr) (X : List Co) (x : Int) (n : Nat) (v i : Value) (wr : World) : Prop := ∃ k : Nat, k ≤ X.length ∧ v = .int .i64 (srcTo (cs X) x n k) ∧ i = .int .i64 k ∧ RdC wr B X ∧ Below w.heap.size w wr
set_option maxRecDepth 100000 in
set_option maxHeartbeats 8000000 in
theorem source_any (B : Option Addr) (d : Nat) (X : List Co) (x : Int) (n : Nat) (w : World) (h : RdC w B X) (hl : X.length ≤ 100) (hx : i64p x) (_ : n ≤ 2000) :
    Calls Try.prog 50 #[.slice B X.length d, .int .i64 x, .int .i64 (n : Nat)] w fun r w' => r = .returned (.int .i64 (src (cs X) x n)) ∧ Below w.heap.size w w' := by
  have H := Lib.hid h
  have HXV := Lib.hid hx
  have hXN : (X.length : Int) ≤ 100 := by omega
  have hstc : ∀ (W : World) (ad : Addr) (p q : Nat) (m : Mode), (store ad (.complex .f64 p q) m).run Try.prog W = stored Try.prog W ad (.complex .f64 p q) m := fun W ad p q m => run_store Try.prog W ad _ m rfl
  clear h hx
  go_enter Try.func50, Try.ntmps50
  go_wp2
  go_loopw [7, 12] (SrcRel w B X x n) (fun _ i _ => X.length - (intOf i).toNat)
  case atStart => exact ⟨0, Nat.zero_le _, rfl, rfl, H.out, Below.refl _ _⟩
  case round =>
    obtain ⟨k, hk, rfl, rfl, hr, hb⟩ := hrel
    have HR := Lib.hid hr
    have HB := Lib.hid hb
    clear hr hb
    by_cases hlt : k < X.length
    · have hlt' : (k : Int) < (X.length : Int) := by omega
      have hy : X[k]? = some X[k] := List.getElem?_eq_getElem hlt
      generalize hYY : X[k] = y at hy
      have HKB := Lib.hid hlt
      have HY := Lib.hid hy
      have HCY := Lib.hid (cs_at hy)
      have HMY := Lib.hid (List.mem_of_getElem? hy)
      have HGY := Lib.hid (HR.out.gc y HMY.out)
      obtain ⟨ad, rfl, c0, c1, c2, c3⟩ := atC HR.out.row hy
      have HS0 := Lib.hid (Bx.new HR.out HB.out y)
      generalize hs : srcTo (cs X) x n k = s
      have HS := Lib.hid hs
      clear hy hYY hs
      unfold coA at HS0
      cases hlf : left y.c x with
      | false =>
        have HLF := Lib.hid hlf
        have HSK := Lib.hid (srcTo_skip (n := n) HCY.out (fun h => by rw [HLF.out] at h; cases h.1))
        clear hlf
        go_wp2_with fail
        refine (left_val y x _ HXV.out (HS0.out.rc.mp y HMY.out).2 HLF.out).mono ?_
        rintro r w1 ⟨rfl, hb⟩
        have HH := Lib.hid (HS0.out.below hb)
        clear hb c0 c1 c2 c3
        go_wp2
        go_round
        case rel => exact ⟨k + 1, by have := HKB.out; omega, by rw [HSK.out, HS.out], by go_num, HH.out.rc, HH.out.bel⟩
        case measure => simp [intOf]; have := HKB.out; omega
      | true =>
        have HLF := Lib.hid hlf
        clear hlf
        by_cases hen : y.c.e ≤ n
        · have hen' : ¬ (y.c.e : Int) > (n : Int) := by omega
          go_wp2_with fail
          refine (left_val y x _ HXV.out (HS0.out.rc.mp y HMY.out).2 HLF.out).mono ?_
          rintro r w1 ⟨rfl, hb⟩
          have HBX := Lib.hid (HS0.out.below hb)
          clear hb c0 c1 c2 c3
          have c0 := HBX.out.c0
          go_wp2_with fail
          refine (end_c HGY.out _).mono ?_
          rintro r w2 ⟨rfl, rfl⟩
          clear c0
          go_wp2
          rcases srcTo_spec (cs X) x n k (by rw [cs_len]; exact hk) with ⟨h0, _⟩ | ⟨a, dd, h0, h1⟩
          · obtain rfl : s = -1 := by rw [← HS.out, h0]
            have HSK := Lib.hid (srcTo_first HCY.out ⟨HLF.out, hen⟩ h0)
            clear h0
            refine wp_region_noPanic ?_
            refine region_z 14 (fun W => Bx w (some ad) X wr.heap.size y W) 14 1000 rfl (by kernel_rfl) (by exact HBX.out.drew) (fun hHeld => ?_)
            refine take_d [1, 2, 3, 4, 5, 6, 7, 8, 9, 10, 11, 12, 13] 0 28 (.int .i64 (-1)) rfl rfl (by kernel_rfl) (by kernel_rfl) (by kernel_rfl) (by kernel_rfl) (fun _ _ _ h => h) (Or.inl ⟨by rfl, by intro W hW; clear hW; go_simp⟩) hHeld ?_
            simp only [put_laws]
            refine take_d [2, 3, 4, 5, 6, 7, 8, 9, 10, 11, 12, 13] 1 29 (.bool true) rfl rfl (by kernel_rfl) (by kernel_rfl) (by kernel_rfl) (by kernel_rfl) (fun _ _ _ h => h) (Or.inl ⟨by rfl, by intro W hW; clear hW; go_simp⟩) hHeld ?_
            simp only [put_laws]
            refine take_d [3, 4, 5, 6, 7, 8, 9, 10, 11, 12, 13] 2 30 (.bool true) rfl rfl (by kernel_rfl) (by kernel_rfl) (by kernel_rfl) (by kernel_rfl) (fun _ _ _ h => h) (Or.inl ⟨by rfl, by intro W hW; clear hW; go_simp⟩) hHeld ?_
            simp only [put_laws]
            refine take_d [4, 5, 11, 12, 13] 3 31 undef rfl rfl (by kernel_rfl) (by kernel_rfl) (by kernel_rfl) (by kernel_rfl) (fun _ _ _ h => h) (Or.inr ⟨by rfl, rfl⟩) hHeld ?_
            simp only [put_laws]
            refine take_d [5, 11, 12, 13] 4 32 undef rfl rfl (by kernel_rfl) (by kernel_rfl) (by kernel_rfl) (by kernel_rfl) (fun _ _ _ h => h) (Or.inr ⟨by rfl, rfl⟩) hHeld ?_
            simp only [put_laws]
            refine take_d [11, 12, 13] 5 33 undef rfl rfl (by kernel_rfl) (by kernel_rfl) (by kernel_rfl) (by kernel_rfl) (fun _ _ _ h => h) (Or.inr ⟨by rfl, rfl⟩) hHeld ?_
            simp only [put_laws]
            refine take_d [8, 9, 10, 11, 12, 13] 6 34 undef rfl rfl (by kernel_rfl) (by kernel_rfl) (by kernel_rfl) (by kernel_rfl) (fun _ _ _ h => h) (Or.inr ⟨by rfl, rfl⟩) hHeld ?_
            simp only [put_laws]
            refine take_d [8, 9, 10, 11, 12, 13] 7 35 undef rfl rfl (by kernel_rfl) (by kernel_rfl) (by kernel_rfl) (by kernel_rfl) (fun _ _ _ h => h) (Or.inr ⟨by rfl, rfl⟩) hHeld ?_
            simp only [put_laws]
            refine take_d [9, 10, 11, 12, 13] 8 36 undef rfl rfl (by kernel_rfl) (by kernel_rfl) (by kernel_rfl) (by kernel_rfl) (fun _ _ _ h => h) (Or.inr ⟨by rfl, rfl⟩) hHeld ?_
            simp only [put_laws]
            refine take_d [10, 11, 12, 13] 9 37 undef rfl rfl (by kernel_rfl) (by kernel_rfl) (by kernel_rfl) (by kernel_rfl) (fun _ _ _ h => h) (Or.inr ⟨by rfl, rfl⟩) hHeld ?_
            simp only [put_laws]
            refine take_d [11, 12, 13] 10 38 undef rfl rfl (by kernel_rfl) (by kernel_rfl) (by kernel_rfl) (by kernel_rfl) (fun _ _ _ h => h) (Or.inr ⟨by rfl, rfl⟩) hHeld ?_
            simp only [put_laws]
            refine take_d [12, 13] 11 39 undef rfl rfl (by kernel_rfl) (by kernel_rfl) (by kernel_rfl) (by kernel_rfl) (fun _ _ _ h => h) (Or.inr ⟨by rfl, rfl⟩) hHeld ?_
            simp only [put_laws]
            refine take_d [13] 12 40 undef rfl rfl (by kernel_rfl) (by kernel_rfl) (by kernel_rfl) (by kernel_rfl) (fun _ _ _ h => h) (Or.inr ⟨by rfl, rfl⟩) hHeld ?_
            simp only [put_laws]
            refine take_d [] 13 41 (.bool true) rfl rfl (by kernel_rfl) (by kernel_rfl) (by kernel_rfl) (by kernel_rfl) (fun _ _ _ h => h) (Or.inl ⟨by rfl, by intro W hW; clear hW; go_simp⟩) hHeld ?_
            simp only [put_laws]
            refine anyZ_done (by kernel_rfl) ?_ _
            refine NoPanic.normal ?_
            have HH := Lib.hid hHeld
            clear hHeld
            go_wp2
            go_roundw
            case rel => exact ⟨k + 1, by have := HKB.out; omega, by rw [HSK.out], by go_num, HH.out.rc, HH.out.bel⟩
            case measure => simp [intOf]; have := HKB.out; omega
          · obtain rfl : s = (a : Int) := by rw [← HS.out, h0]
            have hal : a < X.length := by have := (List.getElem?_eq_some_iff.1 h1.at_).1; rwa [cs_len] at this
            have hz : X[a]? = some X[a] := List.getElem?_eq_getElem hal
            generalize hZZ : X[a] = z at hz
            obtain rfl : z.c = dd := Option.some.inj ((cs_at hz).symm.trans h1.at_)
            have HZ := Lib.hid hz
            have HGZ := Lib.hid (HR.out.gc z (List.mem_of_getElem? hz))
            have HAB := Lib.hid hal
            have HAN := Lib.hid (show (a : Int) < (X.length : Int) from by omega)
            have HNE := Lib.hid (show ((a : Int) == -1) = false from by rw [beq_eq_false_iff_ne]; omega)
            have HSK := Lib.hid (srcTo_turn HCY.out ⟨HLF.out, hen⟩ h0 h1.at_)
            clear h0 h1 hal hz hZZ
            by_cases hzy : z.c.e < y.c.e
            · have HLT := Lib.hid (show (z.c.e : Int) < (y.c.e : Int) from by omega)
              have HSK := Lib.hid (show srcTo (cs X) x n (k + 1) = (k : Int) from by rw [HSK.out, if_pos hzy])
              clear hzy
              refine wp_region_noPanic ?_
              refine region_z 14 (fun W => Bx w (some ad) X wr.heap.size y W) 14 1000 rfl (by kernel_rfl) (by exact HBX.out.drew) (fun hHeld => ?_)
              refine take_d [1, 2, 3, 4, 5, 6, 7, 8, 9, 10, 11, 12, 13] 0 28 (.int .i64 (a : Nat)) rfl rfl (by kernel_rfl) (by kernel_rfl) (by kernel_rfl) (by kernel_rfl) (fun _ _ _ h => h) (Or.inl ⟨by rfl, by intro W hW; clear hW; go_simp⟩) hHeld ?_
              simp only [put_laws]
              refine take_d [2, 3, 4, 5, 6, 7, 8, 9, 10, 11, 12, 13] 1 29 (.bool false) rfl rfl (by kernel_rfl) (by kernel_rfl) (by kernel_rfl) (by kernel_rfl) (fun _ _ _ h => h) (Or.inl ⟨by rfl, by intro W hW; have hq := HNE.out; clear hW; go_simp⟩) hHeld ?_
              simp only [put_laws]
              refine take_d [3, 4, 5, 6, 7, 8, 9, 10, 11, 12, 13] 2 30 (.bool false) rfl rfl (by kernel_rfl) (by kernel_rfl) (by kernel_rfl) (by kernel_rfl) (fun _ _ _ h => h) (Or.inl ⟨by rfl, by intro W hW; clear hW; go_simp⟩) hHeld ?_
              simp only [put_laws]
              refine take_d [4, 5, 11, 12, 13] 3 31 (.pointer (some ⟨wr.heap.size, 0, none⟩)) rfl rfl (by kernel_rfl) (by kernel_rfl) (by kernel_rfl) (by kernel_rfl) (fun _ _ _ h => h) (Or.inl ⟨by rfl, by intro W hW; clear hW; go_simp⟩) hHeld ?_
              simp only [put_laws]
              refine take_d [5, 11, 12, 13] 4 32 (.complex .f64 (cr y.c) (ci y.c)) rfl rfl (by kernel_rfl) (by kernel_rfl) (by kernel_rfl) (by kernel_rfl) (fun _ _ _ h => h) (Or.inl ⟨by rfl, by intro W hW; have c := hW.c0; clear hW; go_simp⟩) hHeld ?_
              simp only [put_laws]
              refine take_d [8, 9, 10, 11, 12, 13] 6 34 (.slice (some ad) X.length d) rfl rfl (by kernel_rfl) (by kernel_rfl) (by kernel_rfl) (by kernel_rfl) (fun _ _ _ h => h) (Or.inl ⟨by rfl, by intro W hW; clear hW; go_simp⟩) hHeld ?_
              simp only [put_laws]
              refine take_d [8, 9, 10, 11, 12, 13] 7 35 (.int .i64 (a : Nat)) rfl rfl (by kernel_rfl) (by kernel_rfl) (by kernel_rfl) (by kernel_rfl) (fun _ _ _ h => h) (Or.inl ⟨by rfl, by intro W hW; clear hW; go_simp⟩) hHeld ?_
              simp only [put_laws]
              refine take_d [9, 10, 11, 12, 13] 8 36 (.pointer (some (ad.add (a * 4)))) rfl rfl (by kernel_rfl) (by kernel_rfl) (by kernel_rfl) (by kernel_rfl) (fun _ _ _ h => h) (Or.inl ⟨by rfl, by intro W hW; have hk := HAB.out; have hk2 := HAN.out; clear hW; go_simp⟩) hHeld ?_
              simp only [put_laws]
              refine take_d [10, 11, 12, 13] 9 37 (.pointer (some (ad.add (a * 4)))) rfl rfl (by kernel_rfl) (by kernel_rfl) (by kernel_rfl) (by kernel_rfl) (fun _ _ _ h => h) (Or.inl ⟨by rfl, by intro W hW; clear hW; go_simp⟩) hHeld ?_
              simp only [put_laws]
              refine take_d [11, 12, 13] 10 38 (.complex .f64 (cr z.c) (ci z.c)) rfl rfl (by kernel_rfl) (by kernel_rfl) (by kernel_rfl) (by kernel_rfl) (fun _ _ _ h => h) (Or.inl ⟨by rfl, by intro W hW; have hh := atC hW.rc.row HZ.out; obtain ⟨ad2, e2, hh⟩ := hh; have e2 := Option.some.inj e2; subst e2; obtain ⟨z0, _, _, _⟩ := hh; clear hW; go_simp⟩) hHeld ?_
              simp only [put_laws]
              refine anyZ_ready (rs := [5]) (by kernel_rfl) (by simp) ?_
              refine AllZ.cons rfl (fun K hK => ?_) AllZ.nil
              go_simp
              refine (end_c HGY.out _).mono ?_
              rintro e w2 ⟨rfl, rfl⟩
              try go_simp
              have hPrev := hHeld
              have hHeld := hPrev
              clear hPrev
              refine hK.out _ _ hHeld (fun hHeld => ?_)
              clear hK K
              refine anyZ_ready (rs := [11]) (by kernel_rfl) (by simp) ?_
              refine AllZ.cons rfl (fun K hK => ?_) AllZ.nil
              go_simp
              refine (end_c HGZ.out _).mono ?_
              rintro e w2 ⟨rfl, rfl⟩
              try go_simp
              have hPrev := hHeld
              have hHeld := hPrev
              clear hPrev
              refine hK.out _ _ hHeld (fun hHeld => ?_)
              clear hK K
              refine take_d [13] 12 40 (.bool true) rfl rfl (by kernel_rfl) (by kernel_rfl) (by kernel_rfl) (by kernel_rfl) (fun _ _ _ h => h) (Or.inl ⟨by rfl, by intro W hW; have hq := HLT.out; clear hW; go_simp⟩) hHeld ?_
              simp only [put_laws]
              refine take_d [] 13 41 (.bool true) rfl rfl (by kernel_rfl) (by kernel_rfl) (by kernel_rfl) (by kernel_rfl) (fun _ _ _ h => h) (Or.inl ⟨by rfl, by intro W hW; clear hW; go_simp⟩) hHeld ?_
              simp only [put_laws]
              refine anyZ_done (by kernel_rfl) ?_ _
              refine NoPanic.normal ?_
              have HH := Lib.hid hHeld
              clear hHeld
              go_wp2
              go_roundw
              case rel => exact ⟨k + 1, by have := HKB.out; omega, by rw [HSK.out], by go_num, HH.out.rc, HH.out.bel⟩
              case measure => simp [intOf]; have := HKB.out; omega
            · have HLT := Lib.hid (show y.c.e ≤ z.c.e from by omega)
              have HSK := Lib.hid (show srcTo (cs X) x n (k + 1) = (a : Int) from by rw [HSK.out, if_neg hzy])
              clear hzy
              refine wp_region_noPanic ?_
              refine region_z 14 (fun W => Bx w (some ad) X wr.heap.size y W) 14 1000 rfl (by kernel_rfl) (by exact HBX.out.drew) (fun hHeld => ?_)
              refine take_d [1, 2, 3, 4, 5, 6, 7, 8, 9, 10, 11, 12, 13] 0 28 (.int .i64 (a : Nat)) rfl rfl (by kernel_rfl) (by kernel_rfl) (by kernel_rfl) (by kernel_rfl) (fun _ _ _ h => h) (Or.inl ⟨by rfl, by intro W hW; clear hW; go_simp⟩) hHeld ?_
              simp only [put_laws]
              refine take_d [2, 3, 4, 5, 6, 7, 8, 9, 10, 11, 12, 13] 1 29 (.bool false) rfl rfl (by kernel_rfl) (by kernel_rfl) (by kernel_rfl) (by kernel_rfl) (fun _ _ _ h => h) (Or.inl ⟨by rfl, by intro W hW; have hq := HNE.out; clear hW; go_simp⟩) hHeld ?_
              simp only [put_laws]
              refine take_d [3, 4, 5, 6, 7, 8, 9, 10, 11, 12, 13] 2 30 (.bool false) rfl rfl (by kernel_rfl) (by kernel_rfl) (by kernel_rfl) (by kernel_rfl) (fun _ _ _ h => h) (Or.inl ⟨by rfl, by intro W hW; clear hW; go_simp⟩) hHeld ?_
              simp only [put_laws]
              refine take_d [4, 5, 11, 12, 13] 3 31 (.pointer (some ⟨wr.heap.size, 0, none⟩)) rfl rfl (by kernel_rfl) (by kernel_rfl) (by kernel_rfl) (by kernel_rfl) (fun _ _ _ h => h) (Or.inl ⟨by rfl, by intro W hW; clear hW; go_simp⟩) hHeld ?_
              simp only [put_laws]
              refine take_d [5, 11, 12, 13] 4 32 (.complex .f64 (cr y.c) (ci y.c)) rfl rfl (by kernel_rfl) (by kernel_rfl) (by kernel_rfl) (by kernel_rfl) (fun _ _ _ h => h) (Or.inl ⟨by rfl, by intro W hW; have c := hW.c0; clear hW; go_simp⟩) hHeld ?_
              simp only [put_laws]
              refine take_d [8, 9, 10, 11, 12, 13] 6 34 (.slice (some ad) X.length d) rfl rfl (by kernel_rfl) (by kernel_rfl) (by kernel_rfl) (by kernel_rfl) (fun _ _ _ h => h) (Or.inl ⟨by rfl, by intro W hW; clear hW; go_simp⟩) hHeld ?_
              simp only [put_laws]
              refine take_d [8, 9, 10, 11, 12, 13] 7 35 (.int .i64 (a : Nat)) rfl rfl (by kernel_rfl) (by kernel_rfl) (by kernel_rfl) (by kernel_rfl) (fun _ _ _ h => h) (Or.inl ⟨by rfl, by intro W hW; clear hW; go_simp⟩) hHeld ?_
              simp only [put_laws]
              refine take_d [9, 10, 11, 12, 13] 8 36 (.pointer (some (ad.add (a * 4)))) rfl rfl (by kernel_rfl) (by kernel_rfl) (by kernel_rfl) (by kernel_rfl) (fun _ _ _ h => h) (Or.inl ⟨by rfl, by intro W hW; have hk := HAB.out; have hk2 := HAN.out; clear hW; go_simp⟩) hHeld ?_
              simp only [put_laws]
              refine take_d [10, 11, 12, 13] 9 37 (.pointer (some (ad.add (a * 4)))) rfl rfl (by kernel_rfl) (by kernel_rfl) (by kernel_rfl) (by kernel_rfl) (fun _ _ _ h => h) (Or.inl ⟨by rfl, by intro W hW; clear hW; go_simp⟩) hHeld ?_
              simp only [put_laws]
              refine take_d [11, 12, 13] 10 38 (.complex .f64 (cr z.c) (ci z.c)) rfl rfl (by kernel_rfl) (by kernel_rfl) (by kernel_rfl) (by kernel_rfl) (fun _ _ _ h => h) (Or.inl ⟨by rfl, by intro W hW; have hh := atC hW.rc.row HZ.out; obtain ⟨ad2, e2, hh⟩ := hh; have e2 := Option.some.inj e2; subst e2; obtain ⟨z0, _, _, _⟩ := hh; clear hW; go_simp⟩) hHeld ?_
              simp only [put_laws]
              refine anyZ_ready (rs := [5]) (by kernel_rfl) (by simp) ?_
              refine AllZ.cons rfl (fun K hK => ?_) AllZ.nil
              go_simp
              refine (end_c HGY.out _).mono ?_
              rintro e w2 ⟨rfl, rfl⟩
              try go_simp
              have hPrev := hHeld
              have hHeld := hPrev
              clear hPrev
              refine hK.out _ _ hHeld (fun hHeld => ?_)
              clear hK K
              refine anyZ_ready (rs := [11]) (by kernel_rfl) (by simp) ?_
              refine AllZ.cons rfl (fun K hK => ?_) AllZ.nil
              go_simp
              refine (end_c HGZ.out _).mono ?_
              rintro e w2 ⟨rfl, rfl⟩
              try go_simp
              have hPrev := hHeld
              have hHeld := hPrev
              clear hPrev
              refine hK.out _ _ hHeld (fun hHeld => ?_)
              clear hK K
              refine take_d [13] 12 40 (.bool false) rfl rfl (by kernel_rfl) (by kernel_rfl) (by kernel_rfl) (by kernel_rfl) (fun _ _ _ h => h) (Or.inl ⟨by rfl, by intro W hW; have hq := HLT.out; clear hW; go_simp⟩) hHeld ?_
              simp only [put_laws]
              refine take_d [] 13 41 (.bool false) rfl rfl (by kernel_rfl) (by kernel_rfl) (by kernel_rfl) (by kernel_rfl) (fun _ _ _ h => h) (Or.inl ⟨by rfl, by intro W hW; clear hW; go_simp⟩) hHeld ?_
              simp only [put_laws]
              refine anyZ_done (by kernel_rfl) ?_ _
              refine NoPanic.normal ?_
              have HH := Lib.hid hHeld
              clear hHeld
              go_wp2
              go_roundw
              case rel => exact ⟨k + 1, by have := HKB.out; omega, by rw [HSK.out], by go_num, HH.out.rc, HH.out.bel⟩
              case measure => simp [intOf]; have := HKB.out; omega
        · have hen' : (y.c.e : Int) > (n : Int) := by omega
          have HSK := Lib.hid (srcTo_skip (x := x) (n := n) HCY.out (fun h => hen h.2))
          go_wp2_with fail
          refine (left_val y x _ HXV.out (HS0.out.rc.mp y HMY.out).2 HLF.out).mono ?_
          rintro r w1 ⟨rfl, hb⟩
          have HH := Lib.hid (HS0.out.below hb)
          clear hb c0 c1 c2 c3
          have c0 := HH.out.c0
          go_wp2_with fail
          refine (end_c HGY.out _).mono ?_
          rintro r w2 ⟨rfl, rfl⟩
          clear c0
          go_wp2
          go_round
          case rel => exact ⟨k + 1, by have := HKB.out; omega, by rw [HSK.out, HS.out], by go_num, HH.out.rc, HH.out.bel⟩
          case measure => simp [intOf]; have := HKB.out; omega
    · have hlt' : ¬ (k : Int) < (X.length : Int) := by omega
      obtain rfl : k = X.length := by omega
      go_wp2
      go_ret
      exact ⟨by unfold src; rw [cs_len]; rfl, HB.out⟩
/-- both boxes, the map that is gone through, and all that lay there. -/
structure Ov (w : World) (x y : Co) (W : World) : Prop where
  x0 : W.cell? ⟨w.heap.size, 0, none⟩ = some (.complex .f64 (cr x.c) (ci x.c))
  x1 : W.cell? ⟨w.heap.size, 1, none⟩ = some (.bool x.c.com)
  x2 : W.cell? ⟨w.heap.size, 2, none⟩ = some (.map (some x.rb))
  x3 : W.cell? ⟨w.heap.size, 3, none⟩ = some (.map (some x.wb))
  y0 : W.cell? ⟨w.heap.size + 1, 0, none⟩ = some (.complex .f64 (cr y.c) (ci y.c))
  y1 : W.cell? ⟨w.heap.size + 1, 1, none⟩ = some (.bool y.c.com)
  y2 : W.cell? ⟨w.heap.size + 1, 2, none⟩ = some (.map (some y.rb))
  y3 : W.cell? ⟨w.heap.size + 1, 3, none⟩ = some (.map (some y.wb))
  bel : Below w.heap.size w W
theorem Ov.below {w W W' : World} {x y : Co} (h : Ov w x y W) (hb : Below W.heap.size W W') : Ov w x y W' :=
  ⟨(hb.cell (Rn.cell_lt h.x0)).trans h.x0, (hb.cell (Rn.cell_lt h.x1)).trans h.x1, (hb.cell (Rn.cell_lt h.x2)).trans h.x2, (hb.cell (Rn.cell_lt h.x3)).trans h.x3, (hb.cell (Rn.cell_lt h.y0)).trans h.y0, (hb.cell (Rn.cell_lt h.y1)).trans h.y1, (hb.cell (Rn.cell_lt h.y2)).trans h.y2, (hb.cell (Rn.cell_lt h.y3)).trans h.y3, h.bel.trans (hb.mono h.bel.size)⟩
theorem Ov.drew {w W : World} {x y : Co} (h : Ov w x y W) : Ov w x y W.drew := h.below (Below.refl _ _).drew
theorem Ov.new (w : World) (x y : Co) : Ov w x y ((w.alloc (.cells (coA x) 71)).alloc (.cells (coA y) 71)) := by
  have h1 := heap_alloc2_old w (.cells (coA x) 71) (.cells (coA y) 71)
  have h2 := heap_alloc2_new w (.cells (coA x) 71) (.cells (coA y) 71)
  exact ⟨cell_of_row _ _ 0 _ _ _ h1, cell_of_row _ _ 1 _ _ _ h1, cell_of_row _ _ 2 _ _ _ h1, cell_of_row _ _ 3 _ _ _ h1, cell_of_row _ _ 0 _ _ _ h2, cell_of_row _ _ 1 _ _ _ h2, cell_of_row _ _ 2 _ _ _ h2, cell_of_row _ _ 3 _ _ _ h2, (Rn.below_new _ _).alloc (by simp) _⟩
/-- what the range has met so far is written by neither of both, or not by both. -/
def OvRel (w : World) (x y : Co) (r : Nat) (wr : World) : Prop := ∃ lf cnt, NR wr x.wb r 2000 x.c.wr lf cnt ∧ (∀ v, lf v = true → (x.c.wr v).isSome = true) ∧ (∀ v, (x.c.wr v).isSome = true → lf v = false → ¬ (left x.c v = true ∧ left y.c v = true)) ∧ Ov w x y wr
set_option maxRecDepth 100000 in
set_option maxHeartbeats 8000000 in
theorem overwrites_any (x y : Co) (w : World) (hx : Gc x.c) (hy : Gc y.c) (mx : ∃ sz, NM w x.wb 2000 sz x.c.wr) (my : ∃ sz, NM w y.wb 2000 sz y.c.wr) (hf : ∀ v k, x.c.wr v = some k → 0 ≤ v ∧ v < 64) :
    Calls Try.prog 29 #[.agg (coA x), .agg (coA y)] w fun r w' => ∃ b, r = .returned (.bool b) ∧ (b = true ↔ OvW x.c y.c) ∧ Below w.heap.size w w' := by
  have HGX := Lib.hid hx
  have HGY := Lib.hid hy
  have HMX := Lib.hid mx
  have HMY := Lib.hid my
  have HF := Lib.hid hf
  have HO := Lib.hid (Ov.new w x y)
  clear hx hy mx my hf
  unfold coA at HO ⊢
  by_cases hle : x.c.e ≤ y.c.e
  · have HLE := Lib.hid hle
    have HNO := Lib.hid (show (false = true ↔ OvW x.c y.c) from ⟨(fun h => by cases h), fun h => by have := h.1; omega⟩)
    clear hle
    go_enter Try.func29, Try.ntmps29
    go_wp2
    generalize (w.alloc (.cells #[.complex .f64 (cr x.c) (ci x.c), .bool x.c.com, .map (some x.rb), .map (some x.wb)] 71)).alloc (.cells #[.complex .f64 (cr y.c) (ci y.c), .bool y.c.com, .map (some y.rb), .map (some y.wb)] 71) = W0 at HO ⊢
    refine wp_region_noPanic ?_
    refine region_z 7 (fun W => Ov w x y W) 7 1000 rfl (by kernel_rfl) (by exact HO.out.drew) (fun hHeld => ?_)
    refine take_d [1, 2, 5, 6] 0 6 (.pointer (some ⟨w.heap.size, 0, none⟩)) rfl rfl (by kernel_rfl) (by kernel_rfl) (by kernel_rfl) (by kernel_rfl) (fun _ _ _ h => h) (Or.inl ⟨by rfl, by intro W hW; clear hW; go_simp⟩) hHeld ?_
    simp only [put_laws]
    refine take_d [2, 5, 6] 1 7 (.complex .f64 (cr x.c) (ci x.c)) rfl rfl (by kernel_rfl) (by kernel_rfl) (by kernel_rfl) (by kernel_rfl) (fun _ _ _ h => h) (Or.inl ⟨by rfl, by intro W hW; have c := hW.x0; clear hW; go_simp⟩) hHeld ?_
    simp only [put_laws]
    refine take_d [4, 5, 6] 3 9 (.pointer (some ⟨w.heap.size + 1, 0, none⟩)) rfl rfl (by kernel_rfl) (by kernel_rfl) (by kernel_rfl) (by kernel_rfl) (fun _ _ _ h => h) (Or.inl ⟨by rfl, by intro W hW; clear hW; go_simp⟩) hHeld ?_
    simp only [put_laws]
    refine take_d [5, 6] 4 10 (.complex .f64 (cr y.c) (ci y.c)) rfl rfl (by kernel_rfl) (by kernel_rfl) (by kernel_rfl) (by kernel_rfl) (fun _ _ _ h => h) (Or.inl ⟨by rfl, by intro W hW; have c := hW.y0; clear hW; go_simp⟩) hHeld ?_
    simp only [put_laws]
    refine anyZ_ready (rs := [2]) (by kernel_rfl) (by simp) ?_
    refine AllZ.cons rfl (fun K hK => ?_) AllZ.nil
    go_simp
    refine (end_c HGX.out _).mono ?_
    rintro e w2 ⟨rfl, rfl⟩
    try go_simp
    have hPrev := hHeld
    have hHeld := hPrev
    clear hPrev
    refine hK.out _ _ hHeld (fun hHeld => ?_)
    clear hK K
    refine anyZ_ready (rs := [5]) (by kernel_rfl) (by simp) ?_
    refine AllZ.cons rfl (fun K hK => ?_) AllZ.nil
    go_simp
    refine (end_c HGY.out _).mono ?_
    rintro e w2 ⟨rfl, rfl⟩
    try go_simp
    have hPrev := hHeld
    have hHeld := hPrev
    clear hPrev
    refine hK.out _ _ hHeld (fun hHeld => ?_)
    clear hK K
    refine take_d [] 6 12 (.bool true) rfl rfl (by kernel_rfl) (by kernel_rfl) (by kernel_rfl) (by kernel_rfl) (fun _ _ _ h => h) (Or.inl ⟨by rfl, by intro W hW; have hq := HLE.out; clear hW; go_simp⟩) hHeld ?_
    simp only [put_laws]
    refine anyZ_done (by kernel_rfl) ?_ _
    refine NoPanic.normal ?_
    have HH := Lib.hid hHeld
    clear hHeld
    go_wp2
    go_ret
    exact ⟨_, rfl, HNO.out, HH.out.bel⟩
  · have HLE := Lib.hid (show y.c.e < x.c.e from by omega)
    clear hle
    go_enter Try.func29, Try.ntmps29
    go_wp2
    generalize (w.alloc (.cells #[.complex .f64 (cr x.c) (ci x.c), .bool x.c.com, .map (some x.rb), .map (some x.wb)] 71)).alloc (.cells #[.complex .f64 (cr y.c) (ci y.c), .bool y.c.com, .map (some y.rb), .map (some y.wb)] 71) = W0 at HO ⊢
    refine wp_region_noPanic ?_
    refine region_z 7 (fun W => Ov w x y W) 7 1000 rfl (by kernel_rfl) (by exact HO.out.drew) (fun hHeld => ?_)
    refine take_d [1, 2, 5, 6] 0 6 (.pointer (some ⟨w.heap.size, 0, none⟩)) rfl rfl (by kernel_rfl) (by kernel_rfl) (by kernel_rfl) (by kernel_rfl) (fun _ _ _ h => h) (Or.inl ⟨by rfl, by intro W hW; clear hW; go_simp⟩) hHeld ?_
    simp only [put_laws]
    refine take_d [2, 5, 6] 1 7 (.complex .f64 (cr x.c) (ci x.c)) rfl rfl (by kernel_rfl) (by kernel_rfl) (by kernel_rfl) (by kernel_rfl) (fun _ _ _ h => h) (Or.inl ⟨by rfl, by intro W hW; have c := hW.x0; clear hW; go_simp⟩) hHeld ?_
    simp only [put_laws]
    refine take_d [4, 5, 6] 3 9 (.pointer (some ⟨w.heap.size + 1, 0, none⟩)) rfl rfl (by kernel_rfl) (by kernel_rfl) (by kernel_rfl) (by kernel_rfl) (fun _ _ _ h => h) (Or.inl ⟨by rfl, by intro W hW; clear hW; go_simp⟩) hHeld ?_
    simp only [put_laws]
    refine take_d [5, 6] 4 10 (.complex .f64 (cr y.c) (ci y.c)) rfl rfl (by kernel_rfl) (by kernel_rfl) (by kernel_rfl) (by kernel_rfl) (fun _ _ _ h => h) (Or.inl ⟨by rfl, by intro W hW; have c := hW.y0; clear hW; go_simp⟩) hHeld ?_
    simp only [put_laws]
    refine anyZ_ready (rs := [2]) (by kernel_rfl) (by simp) ?_
    refine AllZ.cons rfl (fun K hK => ?_) AllZ.nil
    go_simp
    refine (end_c HGX.out _).mono ?_
    rintro e w2 ⟨rfl, rfl⟩
    try go_simp
    have hPrev := hHeld
    have hHeld := hPrev
    clear hPrev
    refine hK.out _ _ hHeld (fun hHeld => ?_)
    clear hK K
    refine anyZ_ready (rs := [5]) (by kernel_rfl) (by simp) ?_
    refine AllZ.cons rfl (fun K hK => ?_) AllZ.nil
    go_simp
    refine (end_c HGY.out _).mono ?_
    rintro e w2 ⟨rfl, rfl⟩
    try go_simp
    have hPrev := hHeld
    have hHeld := hPrev
    clear hPrev
    refine hK.out _ _ hHeld (fun hHeld => ?_)
    clear hK K
    refine take_d [] 6 12 (.bool false) rfl rfl (by kernel_rfl) (by kernel_rfl) (by kernel_rfl) (by kernel_rfl) (fun _ _ _ h => h) (Or.inl ⟨by rfl, by intro W hW; have hq := HLE.out; clear hW; go_simp⟩) hHeld ?_
    simp only [put_laws]
    refine anyZ_done (by kernel_rfl) ?_ _
    refine NoPanic.normal ?_
    have HH := Lib.hid hHeld
    clear hHeld
    generalize W0.drew = W9 at HH ⊢
    obtain ⟨sz, hm⟩ := HMX.out
    have x3 := HH.out.x3
    go_wp2_with (at_range; refine wpList_rangeM rfl _ rfl x.wb 2000 sz x.c.wr rfl (hm.keep HH.out.bel hm.lt) ?_; intro w3 cnt0 hr3 hb3 hs3)
    have HR3 := Lib.hid hr3
    have HH3 := Lib.hid (HH.out.below hb3)
    have HRL := Lib.hid (show w.heap.size ≤ W9.heap.size from HH.out.bel.size)
    clear hr3 hb3 hs3 x3 hm
    go_frame
    go_loopw [5] (fun _ wr => OvRel w x y W9.heap.size wr) (fun _ wr => wr.rangeLeft x.wb W9.heap.size)
    case atStart => exact ⟨_, _, HR3.out, fun v h => h, (fun v h1 h2 => by rw [h1] at h2; cases h2), HH3.out⟩
    case round =>
      obtain ⟨lf, cnt, hnr, hlf, hno, hov⟩ := hrel
      have HNR := Lib.hid hnr
      have HLF := Lib.hid hlf
      have HNO := Lib.hid hno
      have HOV := Lib.hid hov
      clear hnr hlf hno hov
      go_wp2_with (at_next; refine wpList_nextM rfl _ rfl x.wb W9.heap.size 2000 x.c.wr lf cnt rfl HNR.out HLF.out ?_ ?_)
      · intro hl0
        have HNN := Lib.hid (show (false = true ↔ OvW x.c y.c) from ⟨(fun h => by cases h), fun ⟨_, v, h1, h2⟩ => absurd ⟨h1, h2⟩ (HNO.out v (by unfold left at h1; simp at h1; exact h1.2) (hl0 v))⟩)
        clear hl0
        go_wp2
        go_ret
        exact ⟨_, rfl, HNN.out, HOV.out.bel⟩
      · intro v kk w4 cnt1 hlx hfx hr4 hlt4 hg4 hs4 hen
        have hv := HF.out v kk hfx
        have HV := Lib.hid (show i64p v from ⟨by omega, by omega⟩)
        have HB4 := Lib.hid (show Below w.heap.size wr w4 from (Below.refl _ _).grown hg4 HOV.out.bel.size (fun k hk => by have := Option.some.inj hk; have := HRL.out; omega))
        have HWB := Lib.hid (HOV.out.bel.trans HB4.out)
        have HX4 := Lib.hid (show Ov w x y w4 from by
          have hr := HNR.out.lt.1
          have hk : ∀ (q i : Nat) (u : Value), q < W9.heap.size → wr.cell? ⟨q, i, none⟩ = some u → w4.cell? ⟨q, i, none⟩ = some u := fun q i u hq hu =>
            (World.cell?_of_block (w := wr) (a := ⟨q, i, none⟩) (hg4.block q (Rn.cell_lt hu) (fun e => by have := Option.some.inj e; omega))).trans hu
          have q0 : w.heap.size < W9.heap.size := Rn.cell_lt HH.out.x0
          have q1 : w.heap.size + 1 < W9.heap.size := Rn.cell_lt HH.out.y0
          have h := HOV.out
          exact ⟨hk _ _ _ q0 h.x0, hk _ _ _ q0 h.x1, hk _ _ _ q0 h.x2, hk _ _ _ q0 h.x3, hk _ _ _ q1 h.y0, hk _ _ _ q1 h.y1, hk _ _ _ q1 h.y2, hk _ _ _ q1 h.y3, HWB.out⟩)
        have HM4 := Lib.hid (show ∃ sz, NM w4 x.wb 2000 sz x.c.wr from hr4.map)
        have HR4 := Lib.hid hr4
        have HLTT := Lib.hid hlt4
        have HLF4 := Lib.hid (show ∀ z, (lf z && !decide (z = v)) = true → (x.c.wr z).isSome = true from fun z hz => HLF.out z (by simp at hz; exact hz.1))
        have HFX := Lib.hid hfx
        clear hlx hfx hr4 hlt4 hg4 hs4 hv
        have x0 := HX4.out.x0
        have x1 := HX4.out.x1
        have x2 := HX4.out.x2
        have x3 := HX4.out.x3
        cases h1 : left x.c v with
        | true =>
          have HL1 := Lib.hid h1
          clear h1
          go_wp2_with fail
          refine (left_val x v _ HV.out HM4.out HL1.out).mono ?_
          rintro r w5 ⟨rfl, hb5⟩
          have HX5 := Lib.hid (HX4.out.below hb5)
          have HR5 := Lib.hid (HR4.out.below hb5)
          have HMY5 := Lib.hid (show ∃ sz, NM w5 y.wb 2000 sz y.c.wr from by
            obtain ⟨sz, hm⟩ := HMY.out
            exact ⟨sz, hm.keep HX5.out.bel hm.lt⟩)
          clear hb5 x0 x1 x2 x3
          have y0 := HX5.out.y0
          have y1 := HX5.out.y1
          have y2 := HX5.out.y2
          have y3 := HX5.out.y3
          cases h2 : left y.c v with
          | true =>
            have HL2 := Lib.hid h2
            have HYES := Lib.hid (show (true = true ↔ OvW x.c y.c) from ⟨fun _ => ⟨HLE.out, v, HL1.out, h2⟩, fun _ => rfl⟩)
            clear h2
            go_wp2_with fail
            refine (left_val y v _ HV.out HMY5.out HL2.out).mono ?_
            rintro r w6 ⟨rfl, hb6⟩
            have HX6 := Lib.hid (HX5.out.below hb6)
            clear hb6 y0 y1 y2 y3
            go_wp2
            go_ret
            exact ⟨_, rfl, by have := HYES.out; simpa using this, HX6.out.bel⟩
          | false =>
            have HL2 := Lib.hid h2
            have HN5 := Lib.hid (show ∀ z, (x.c.wr z).isSome = true → (lf z && !decide (z = v)) = false → ¬ (left x.c z = true ∧ left y.c z = true) from fun z hz hl => by
              by_cases e : z = v
              · subst e; intro h; rw [h2] at h; cases h.2
              · exact HNO.out z hz (by simpa [e] using hl))
            clear h2
            go_wp2_with fail
            refine (left_val y v _ HV.out HMY5.out HL2.out).mono ?_
            rintro r w6 ⟨rfl, hb6⟩
            have HX6 := Lib.hid (HX5.out.below hb6)
            have HR6 := Lib.hid (HR5.out.below hb6)
            clear hb6 y0 y1 y2 y3
            go_wp2
            go_roundw
            case rel => exact ⟨_, _, HR6.out, HLF4.out, HN5.out, HX6.out⟩
            case measure =>
              rw [HR6.out.left_eq, HNR.out.left_eq]; exact HLTT.out
        | false =>
          have HL1 := Lib.hid h1
          have HN5 := Lib.hid (show ∀ z, (x.c.wr z).isSome = true → (lf z && !decide (z = v)) = false → ¬ (left x.c z = true ∧ left y.c z = true) from fun z hz hl => by
            by_cases e : z = v
            · subst e; intro h; rw [h1] at h; cases h.1
            · exact HNO.out z hz (by simpa [e] using hl))
          clear h1
          go_wp2_with fail
          refine (left_val x v _ HV.out HM4.out HL1.out).mono ?_
          rintro r w5 ⟨rfl, hb5⟩
          have HX5 := Lib.hid (HX4.out.below hb5)
          have HR5 := Lib.hid (HR4.out.below hb5)
          clear hb5 x0 x1 x2 x3
          go_wp2
          go_roundw
          case rel => exact ⟨_, _, HR5.out, HLF4.out, HN5.out, HX5.out⟩
          case measure =>
            rw [HR5.out.left_eq, HNR.out.left_eq]; exact HLTT.out
end Go.Proofs.Ytaonepbongbhoaa.Hi
namespace Go.Proofs.Ytaonepbongbhoaa.Hi
open Go.RowKit
open Tx (i64p)
open Az
theorem put_any (m : Mm.Gr) (a b : Int) (w : World) (hm : Mm.Ok m) (ha : i64p a) (hb : i64p b) : Calls Try.prog 30 #[.agg (matA m), .int .i64 a, .int .i64 b] w fun e w' => (∃ c, e = .returned (.tuple #[.agg (matA (putE m a b)), .bool c])) ∧ Below w.heap.size w w' := by
  unfold putE
  by_cases h1 : 0 ≤ a ∧ a < 32
  · obtain ⟨x, rfl⟩ := Int.eq_ofNat_of_zero_le h1.1
    by_cases h2 : 0 ≤ b ∧ b < 32
    · obtain ⟨y, rfl⟩ := Int.eq_ofNat_of_zero_le h2.1
      by_cases h3 : x = y
      · subst h3
        rw [if_neg (by omega)]
        exact (put_no3 m x w (by omega)).mono fun _ _ h => ⟨⟨_, h.1⟩, h.2⟩
      · rw [if_pos ⟨h1.1, h1.2, h2.1, h2.2, by omega⟩]
        exact (put_yes m x y w hm (by omega) (by omega) h3).mono fun _ _ h => ⟨⟨_, h.1⟩, h.2⟩
    · rw [if_neg (by omega)]
      exact (put_no2 m x b w (by omega) ⟨hb, by omega⟩).mono fun _ _ h => ⟨⟨_, h.1⟩, h.2⟩
  · rw [if_neg (by omega)]
    exact (put_no1 m a b w ⟨ha, by omega⟩).mono fun _ _ h => ⟨⟨_, h.1⟩, h.2⟩
theorem yields_mat {ops : Array Oper} {S : World → Prop} {op : Oper} {a : Act} (hw : Region.wanted op (yielded ops a.tmps) = true) (ty : TypeId) (x : Operand) (ho : op.op = .load ty x)
    (b : Nat) (hx : a.eval x = .pointer (some ⟨b, 0, none⟩)) (t : Nat) (m : Mm.Gr) {n : Nat} {el : TypeId} (hS : ∀ w, S w → MatAt w b m t)
    (hu : Try.prog.underlying ty = some (.array n el)) (hi : (Try.prog.info? ty).map (·.size) = some (matA m).size) : YieldsIf Try.prog ops S op (.agg (matA m)) a :=
  .inl ⟨hw, fun w hw' => by
    unfold execOp
    simp only [ho, hx, Instr.loadAt, Instr.sureAddr, Sem.run_bind, Sem.run_pure, Result.andThen_ok, run_loadVar_row w b t ty (matA m) (0, 0) _ (hS w hw') hu rfl hi]⟩
theorem step_store_mat {w : World} {ops : Array Oper} {op : Oper} {a : Go.Act} {K : Go.Act → World → Prop} {Q : Exit → Go.Act → World → Prop} {E : Prop} (hgd : op.guard = none) (ty : TypeId) (x y : Operand) (ho : op.op = .store ty x y) (hds : op.dst = none)
    (g : Nat) (p q : Mm.Gr) (t : Nat) (hx : a.eval x = .pointer (some ⟨g, 0, none⟩)) (hy : a.eval y = .agg (matA q)) (h : MatAt w g p t) (hi : (Try.prog.info? ty).map (·.size) = some (matA q).size)
    (hK : K a (w.setRow g (matA q))) : if Region.wanted op (yielded ops a.tmps) = true then Oper.wp Try.prog op a w K Q else E := by
  have hw : Region.wanted op (yielded ops a.tmps) = true := by simp [Region.wanted, hgd]
  rw [if_pos hw]
  refine wp_store_row ty x y ho g (matA q) hx hy t _ h hi (by rw [matA_size, matA_size]) (matA_one _) ?_
  rw [hds]; exact hK
/-- both boxes of a matrix, the courses, the map that is gone through. -/
structure GS (w : World) (B : Option Addr) (X : List Co) (b r : Nat) (f : Int → Option Nat) (lf : Int → Bool) (cnt : Nat) (m : Mm.Gr) (W : World) : Prop where
  bx : MatAt W w.heap.size m 36
  re : MatAt W (w.heap.size + 1) zeroM 36
  nr : NR W b r 2000 f lf cnt
  rc : RdC W B X
  bel : Below w.heap.size w W
section
variable {w : World} {B : Option Addr} {X : List Co} {b r : Nat} {f : Int → Option Nat} {lf : Int → Bool} {cnt : Nat} {m : Mm.Gr}
theorem GS.below {W W' : World} (h : GS w B X b r f lf cnt m W) (hb : Below W.heap.size W W') : GS w B X b r f lf cnt m W' :=
  ⟨h.bx.below hb, h.re.below hb, h.nr.below hb, h.rc.below hb, h.bel.trans (hb.mono h.bel.size)⟩
theorem GS.drew {W : World} (h : GS w B X b r f lf cnt m W) : GS w B X b r f lf cnt m W.drew := h.below (Below.refl _ _).drew
theorem NR.row {W : World} {b r n cnt g : Nat} {f : Int → Option Nat} {left : Int → Bool} {cs : Array Value} (h : NR W b r n f left cnt) (h1 : b ≠ g) (h2 : r ≠ g) : NR (W.setRow g cs) b r n f left cnt :=
  h.kept (row := some g) ⟨rfl, rfl, rfl, by simp [World.setRow], fun k hk hne => setRow_other _ _ _ _ (fun e => hne (by rw [e]))⟩ (fun e => h1 (Option.some.inj e)) (fun e => h2 (Option.some.inj e))
/-- the box is stored to. -/
theorem GS.put {W : World} {m' : Mm.Gr} (h : GS w B X b r f lf cnt m W) (h0 : RdC w B X) : GS w B X b r f lf cnt m' (W.setRow w.heap.size (matA m')) := by
  have hn := h.nr.ne h.bx
  have hb : Below w.heap.size w (W.setRow w.heap.size (matA m')) := setRow_below h.bel (Nat.le_refl _)
  exact ⟨matAt_put h.bx, h.re.setRow _ (by omega), h.nr.row hn.1 hn.2, h0.below hb, hb⟩
/-- the step of the range. -/
theorem GS.next {W w' : World} {lf' : Int → Bool} {cnt' : Nat} (h : GS w B X b r f lf cnt m W) (h0 : RdC w B X) (hr : NR w' b r 2000 f lf' cnt') (hg : W.grownBy w' (some r)) (hlt : w.heap.size + 1 < r) : GS w B X b r f lf' cnt' m w' := by
  have hb : Below w.heap.size W w' := (Below.refl _ _).grown hg h.bel.size (fun k hk => by have := Option.some.inj hk; omega)
  exact ⟨(hg.block _ h.bx.lt (fun e => by have := Option.some.inj e; omega)).trans h.bx, (hg.block _ h.re.lt (fun e => by have := Option.some.inj e; omega)).trans h.re, hr, h0.below (h.bel.trans hb), h.bel.trans hb⟩
end
/-- the edges of those reads that have come. -/
def Gb (l : List Cr) (b : Nat) (f : Int → Option Nat) (lf : Int → Bool) (i j : Nat) : Prop := ∃ x n, f x = some n ∧ lf x = false ∧ Ed l b x n i j
/-- of one read: its writer, and of the first k those that wrote over it. -/
def Gi (l : List Cr) (b : Nat) (x : Int) (n k : Nat) (i j : Nat) : Prop := (j = b ∧ (i : Int) = src l x n ∧ i ≠ b) ∨ (i = b ∧ j ≠ b ∧ j < k ∧ ∃ c, l[j]? = some c ∧ left c x = true ∧ n < c.e)
theorem Gi.all {l : List Cr} {b : Nat} {x : Int} {n k i j : Nat} (h : l.length ≤ k) : Gi l b x n k i j ↔ Ed l b x n i j := by
  unfold Gi Ed
  constructor
  · rintro (h | ⟨h1, h2, _, h4⟩)
    · exact .inl h
    · exact .inr ⟨h1, h2, h4⟩
  · rintro (h | ⟨h1, h2, c, hc, h4⟩)
    · exact .inl h
    · exact .inr ⟨h1, h2, by have := (List.getElem?_eq_some_iff.1 hc).1; omega, c, hc, h4⟩
theorem Gb.next {l : List Cr} {b : Nat} {f : Int → Option Nat} {lf : Int → Bool} {x : Int} {n i j : Nat} (hf : f x = some n) (hl : lf x = true) : Gb l b f (fun z => lf z && !decide (z = x)) i j ↔ Gb l b f lf i j ∨ Ed l b x n i j := by
  unfold Gb
  constructor
  · rintro ⟨y, k, h1, h2, h3⟩
    by_cases e : y = x
    · subst e
      rw [hf] at h1
      obtain rfl := Option.some.inj h1
      exact .inr h3
    · exact .inl ⟨y, k, h1, by simpa [e] using h2, h3⟩
  · rintro (⟨y, k, h1, h2, h3⟩ | h)
    · exact ⟨y, k, h1, by simp [h2], h3⟩
    · exact ⟨x, n, hf, by simp, h⟩
theorem Gb.last {l : List Cr} {b : Nat} {f : Int → Option Nat} {lf : Int → Bool} {i j : Nat} (h : ∀ x, lf x = false) : Gb l b f lf i j ↔ ∃ x n, f x = some n ∧ Ed l b x n i j :=
  ⟨fun ⟨x, n, h1, _, h3⟩ => ⟨x, n, h1, h3⟩, fun ⟨x, n, h1, h3⟩ => ⟨x, n, h1, h x, h3⟩⟩
theorem src_lt (l : List Cr) (x : Int) (n : Nat) : -1 ≤ src l x n ∧ src l x n < (l.length : Int) ∨ src l x n = -1 := by
  rcases srcTo_spec l x n l.length (Nat.le_refl _) with ⟨h, _⟩ | ⟨a, c, h, h1⟩
  · exact .inr h
  · left; unfold src; rw [h]; have := h1.lt; omega
def BeRel (w : World) (B : Option Addr) (X : List Co) (y : Co) (bb r : Nat) (G : Nat → Nat → Prop) (wr : World) : Prop :=
  ∃ lf cnt m, GS w B X y.rb r y.c.rd lf cnt m wr ∧ (∀ v, lf v = true → (y.c.rd v).isSome = true) ∧ Is m (fun i j => G i j ∨ Gb (cs X) bb y.c.rd lf i j)
def BiRel (w : World) (B : Option Addr) (X : List Co) (y : Co) (bb r : Nat) (G : Nat → Nat → Prop) (lf : Int → Bool) (cnt : Nat) (x : Int) (n : Nat) (i : Value) (wr : World) : Prop :=
  ∃ k m, k ≤ X.length ∧ i = .int .i64 (k : Nat) ∧ GS w B X y.rb r y.c.rd lf cnt m wr ∧ Is m (fun i j => G i j ∨ Gi (cs X) bb x n k i j)
theorem Gi_skip {l : List Cr} {b : Nat} {x : Int} {n k : Nat} {m : Mm.Gr} {G : Nat → Nat → Prop} {c : Cr} (h : Is m (fun i j => G i j ∨ Gi l b x n k i j)) (hc : l[k]? = some c) (hno : ¬ (left c x = true ∧ n < c.e)) : Is m (fun i j => G i j ∨ Gi l b x n (k + 1) i j) := by
  refine h.congr fun i j _ => or_congr_right ?_
  unfold Gi
  refine or_congr_right ⟨?_, ?_⟩
  · rintro ⟨h1, h2, h3, h4⟩; exact ⟨h1, h2, by omega, h4⟩
  · rintro ⟨h1, h2, h3, d, hd, h4⟩
    refine ⟨h1, h2, ?_, d, hd, h4⟩
    rcases Nat.lt_or_ge j k with hj | hj
    · exact hj
    · obtain rfl : j = k := by omega
      rw [hc] at hd
      obtain rfl := Option.some.inj hd
      exact absurd h4 hno
theorem Gi_more {l : List Cr} {b : Nat} {x : Int} {n k : Nat} {m : Mm.Gr} {G : Nat → Nat → Prop} {c : Cr} (h : Is m (fun i j => G i j ∨ Gi l b x n k i j)) (hc : l[k]? = some c) (hyes : left c x = true ∧ n < c.e) (hk : k < 32) (hb : (b : Int) < 32) : Is (putE m (b : Nat) (k : Nat)) (fun i j => G i j ∨ Gi l b x n (k + 1) i j) := by
  refine (h.putE (b : Nat) (k : Nat) hb ⟨by omega, by omega⟩).congr fun i j _ => ?_
  rw [or_assoc]
  refine or_congr_right ?_
  unfold Gi
  constructor
  · rintro ((h1 | ⟨h1, h2, h3, h4⟩) | ⟨h1, h2, h3⟩)
    · exact .inl h1
    · exact .inr ⟨h1, h2, by omega, h4⟩
    · obtain rfl : i = b := by omega
      obtain rfl : j = k := by omega
      exact .inr ⟨rfl, by omega, Nat.lt_succ_self _, c, hc, hyes⟩
  · rintro (h1 | ⟨h1, h2, h3, d, hd, h4⟩)
    · exact .inl (.inl h1)
    · rcases Nat.lt_or_ge j k with hj | hj
      · exact .inl (.inr ⟨h1, h2, hj, d, hd, h4⟩)
      · obtain rfl : j = k := by omega
        exact .inr ⟨by omega, rfl, by omega⟩
/-- a matrix that the call hands back. -/
def BePost (G : Nat → Nat → Prop) (w : World) (r : Ending) (w' : World) : Prop := ∃ m, r = .returned (.agg (matA m)) ∧ Is m G ∧ Below w.heap.size w w'
set_option maxRecDepth 100000 in
set_option maxHeartbeats 8000000 in
theorem beside_any (B : Option Addr) (d : Nat) (X : List Co) (bb : Nat) (y : Co) (m0 : Mm.Gr) (G : Nat → Nat → Prop) (w : World) (h : RdC w B X) (hl : X.length ≤ 32) (hy : X[bb]? = some y) (his : Is m0 G) (hf : ∀ v k, y.c.rd v = some k → 0 ≤ v ∧ v < 64 ∧ k ≤ 2000) :
    Calls Try.prog 31 #[.agg (matA m0), .slice B X.length d, .int .i64 (bb : Nat)] w (BePost (fun i j => G i j ∨ ∃ x n, y.c.rd x = some n ∧ Ed (cs X) bb x n i j) w) := by
  have H := Lib.hid h
  have HXL := Lib.hid (show X.length ≤ 100 from by omega)
  have hbl := (List.getElem?_eq_some_iff.1 hy).1
  have hXN : (X.length : Int) ≤ 32 := by omega
  have hbN : (bb : Int) < (X.length : Int) := by omega
  have HF := Lib.hid hf
  have HIS0 := Lib.hid his
  have HBI := Lib.hid (show i64p (bb : Nat) from ⟨by omega, by omega⟩)
  have HB1 := Lib.hid (show MatAt ((w.alloc (.cells (matA m0) 36)).alloc (.cells #[Value.int .u64 0, Value.int .u64 0, Value.int .u64 0, Value.int .u64 0, Value.int .u64 0, Value.int .u64 0, Value.int .u64 0, Value.int .u64 0, Value.int .u64 0, Value.int .u64 0, Value.int .u64 0, Value.int .u64 0, Value.int .u64 0, Value.int .u64 0, Value.int .u64 0, Value.int .u64 0, Value.int .u64 0, Value.int .u64 0, Value.int .u64 0, Value.int .u64 0, Value.int .u64 0, Value.int .u64 0, Value.int .u64 0, Value.int .u64 0, Value.int .u64 0, Value.int .u64 0, Value.int .u64 0, Value.int .u64 0, Value.int .u64 0, Value.int .u64 0, Value.int .u64 0, Value.int .u64 0] 36)) w.heap.size m0 36 from heap_alloc2_old _ _ _)
  have HB2 := Lib.hid (show MatAt ((w.alloc (.cells (matA m0) 36)).alloc (.cells #[Value.int .u64 0, Value.int .u64 0, Value.int .u64 0, Value.int .u64 0, Value.int .u64 0, Value.int .u64 0, Value.int .u64 0, Value.int .u64 0, Value.int .u64 0, Value.int .u64 0, Value.int .u64 0, Value.int .u64 0, Value.int .u64 0, Value.int .u64 0, Value.int .u64 0, Value.int .u64 0, Value.int .u64 0, Value.int .u64 0, Value.int .u64 0, Value.int .u64 0, Value.int .u64 0, Value.int .u64 0, Value.int .u64 0, Value.int .u64 0, Value.int .u64 0, Value.int .u64 0, Value.int .u64 0, Value.int .u64 0, Value.int .u64 0, Value.int .u64 0, Value.int .u64 0, Value.int .u64 0] 36)) (w.heap.size + 1) zeroM 36 from by
    have := zero_lit (w.alloc (.cells (matA m0) 36)) 36
    rw [Rn.size_new] at this
    exact this)
  have HB3 := Lib.hid (show Below w.heap.size w ((w.alloc (.cells (matA m0) 36)).alloc (.cells #[Value.int .u64 0, Value.int .u64 0, Value.int .u64 0, Value.int .u64 0, Value.int .u64 0, Value.int .u64 0, Value.int .u64 0, Value.int .u64 0, Value.int .u64 0, Value.int .u64 0, Value.int .u64 0, Value.int .u64 0, Value.int .u64 0, Value.int .u64 0, Value.int .u64 0, Value.int .u64 0, Value.int .u64 0, Value.int .u64 0, Value.int .u64 0, Value.int .u64 0, Value.int .u64 0, Value.int .u64 0, Value.int .u64 0, Value.int .u64 0, Value.int .u64 0, Value.int .u64 0, Value.int .u64 0, Value.int .u64 0, Value.int .u64 0, Value.int .u64 0, Value.int .u64 0, Value.int .u64 0] 36)) from (Rn.below_new _ _).alloc (by simp) _)
  have HR0 := Lib.hid (H.out.below HB3.out)
  have hsz : ((w.alloc (.cells (matA m0) 36)).alloc (.cells #[Value.int .u64 0, Value.int .u64 0, Value.int .u64 0, Value.int .u64 0, Value.int .u64 0, Value.int .u64 0, Value.int .u64 0, Value.int .u64 0, Value.int .u64 0, Value.int .u64 0, Value.int .u64 0, Value.int .u64 0, Value.int .u64 0, Value.int .u64 0, Value.int .u64 0, Value.int .u64 0, Value.int .u64 0, Value.int .u64 0, Value.int .u64 0, Value.int .u64 0, Value.int .u64 0, Value.int .u64 0, Value.int .u64 0, Value.int .u64 0, Value.int .u64 0, Value.int .u64 0, Value.int .u64 0, Value.int .u64 0, Value.int .u64 0, Value.int .u64 0, Value.int .u64 0, Value.int .u64 0] 36)).heap.size = w.heap.size + 2 := by simp
  obtain ⟨ad, rfl, c0, c1, c2, c3⟩ := atC HR0.out.row hy
  obtain ⟨sz, hm⟩ := (HR0.out.mp y (List.mem_of_getElem? hy)).1
  have HM := Lib.hid hm
  clear h his hf hy hm
  go_enter Try.func31, Try.ntmps31
  go_wp2_with (at_range; refine wpList_rangeM rfl _ rfl y.rb 2000 sz y.c.rd rfl HM.out ?_; intro w3 cnt0 hr3 hb3 hs3)
  generalize (w.alloc (.cells (matA m0) 36)).alloc (.cells #[Value.int .u64 0, Value.int .u64 0, Value.int .u64 0, Value.int .u64 0, Value.int .u64 0, Value.int .u64 0, Value.int .u64 0, Value.int .u64 0, Value.int .u64 0, Value.int .u64 0, Value.int .u64 0, Value.int .u64 0, Value.int .u64 0, Value.int .u64 0, Value.int .u64 0, Value.int .u64 0, Value.int .u64 0, Value.int .u64 0, Value.int .u64 0, Value.int .u64 0, Value.int .u64 0, Value.int .u64 0, Value.int .u64 0, Value.int .u64 0, Value.int .u64 0, Value.int .u64 0, Value.int .u64 0, Value.int .u64 0, Value.int .u64 0, Value.int .u64 0, Value.int .u64 0, Value.int .u64 0] 36) = W0 at *
  have HS3 := Lib.hid (show GS w (some ad) X y.rb W0.heap.size y.c.rd (fun x => (y.c.rd x).isSome) cnt0 m0 w3 from ⟨HB1.out.below hb3, HB2.out.below hb3, hr3, HR0.out.below hb3, HB3.out.trans (hb3.mono HB3.out.size)⟩)
  have HI3 := Lib.hid (show Is m0 (fun i j => G i j ∨ Gb (cs X) bb y.c.rd (fun x => (y.c.rd x).isSome) i j) from HIS0.out.congr fun i j _ => ⟨fun h => .inl h, fun h => h.elim id (fun ⟨x, n, h1, h2, _⟩ => by dsimp only at h2; rw [h1] at h2; cases h2)⟩)
  have HRL := Lib.hid hsz
  clear hr3 hb3 hs3 c0 c1 c2 c3 hsz
  go_frame
  go_loopw [7] (fun _ wr => BeRel w (some ad) X y bb W0.heap.size G wr) (fun _ wr => wr.rangeLeft y.rb W0.heap.size)
  case atStart => exact ⟨_, _, _, HS3.out, fun v h => h, HI3.out⟩
  case round =>
    obtain ⟨lf, cnt, m, hgs, hlf, his⟩ := hrel
    have HGS := Lib.hid hgs
    have HLF := Lib.hid hlf
    have HIS := Lib.hid his
    clear hgs hlf his
    go_wp2_with (at_next; refine wpList_nextM rfl _ rfl y.rb W0.heap.size 2000 y.c.rd lf cnt rfl HGS.out.nr HLF.out ?_ ?_)
    · intro hl0
      have HIE := Lib.hid (show Is m (fun i j => G i j ∨ ∃ x n, y.c.rd x = some n ∧ Ed (cs X) bb x n i j) from HIS.out.congr fun i j _ => or_congr_right (Gb.last hl0))
      clear hl0
      go_wp2_with (first
        | (refine wpList_load_row rfl 36 (.tmp 3) rfl w.heap.size rfl 36 (matA m) (0, 0) _ HGS.out.bx Try.underlying36 rfl (matInfo m) ?_)
        | (refine wpList_store_row rfl 36 (.tmp 6) (.tmp 60) rfl (w.heap.size + 1) (matA m) rfl rfl 36 _ HGS.out.re (matInfo m) (by rw [matA_size, matA_size]) (matA_one _) ?_))
      refine bodyPost_ret (results_cell_row rfl _ _ (w.heap.size + 1) 36 (matA m) (0, 0) _ rfl (setRow_heap _ _ _ _ _ _ HGS.out.re) Try.underlying36 rfl (matInfo _)) rfl ⟨m, rfl, HIE.out, ?_⟩
      exact setRow_below HGS.out.bel (by omega)
    · intro x n w4 cnt1 hlx hfx hr4 hlt4 hg4 hs4 hen
      have hv := HF.out x n hfx
      have HV := Lib.hid (show i64p x from ⟨by omega, by omega⟩)
      have HKN := Lib.hid (show n ≤ 2000 from hv.2.2)
      have HSR := Lib.hid (show i64p (src (cs X) x n) from by
        have := src_lt (cs X) x n
        rw [cs_len] at this
        constructor <;> omega)
      have HS4 := Lib.hid (HGS.out.next H.out hr4 hg4 (by have := HRL.out; omega))
      have HI7 := Lib.hid (show Is (putE m (src (cs X) x n) (bb : Nat)) (fun i j => (G i j ∨ Gb (cs X) bb y.c.rd lf i j) ∨ Gi (cs X) bb x n 0 i j) from
        (HIS.out.putE (src (cs X) x n) (bb : Nat) (by have := src_lt (cs X) x n; rw [cs_len] at this; omega) ⟨by omega, by omega⟩).congr fun i j _ => or_congr_right (by
          unfold Gi
          constructor
          · rintro ⟨h1, h2, h3⟩; exact .inl ⟨by omega, h1, by omega⟩
          · rintro (⟨h1, h2, h3⟩ | ⟨_, _, h3, _⟩)
            · exact ⟨h2, by omega, by omega⟩
            · omega))
      have HFX := Lib.hid hfx
      have HLX := Lib.hid hlx
      have HLTT := Lib.hid hlt4
      have HLF4 := Lib.hid (show ∀ z, (lf z && !decide (z = x)) = true → (y.c.rd z).isSome = true from fun z hz => HLF.out z (by simp at hz; exact hz.1))
      clear hlx hfx hr4 hlt4 hg4 hs4 hv
      go_wp2
      refine wp_region_noPanic ?_
      refine region_z 11 (fun W => GS w (some ad) X y.rb W0.heap.size y.c.rd (fun z => lf z && !decide (z = x)) cnt1 m W) 10 9 rfl (by kernel_rfl) (by exact HS4.out.drew) (fun hHeld => ?_)
      refine take_d [6, 7, 8, 9, 10] 0 22 (.agg (matA m)) rfl rfl (by kernel_rfl) (by kernel_rfl) (by kernel_rfl) (by kernel_rfl) (fun _ _ _ h => h) (yields_mat rfl 36 (.tmp 3) rfl w.heap.size rfl 36 m (fun W hW => hW.bx) Try.underlying36 (matInfo m)) hHeld ?_
      simp only [put_laws]
      refine take_d [4, 6, 7, 8, 9, 10] 1 23 (.slice (some ad) X.length d) rfl rfl (by kernel_rfl) (by kernel_rfl) (by kernel_rfl) (by kernel_rfl) (fun _ _ _ h => h) (Or.inl ⟨by rfl, by intro W hW; clear hW; go_simp⟩) hHeld ?_
      simp only [put_laws]
      refine take_d [4, 6, 7, 8, 9, 10] 2 24 (.int .i64 x) rfl rfl (by kernel_rfl) (by kernel_rfl) (by kernel_rfl) (by kernel_rfl) (fun _ _ _ h => h) (Or.inl ⟨by rfl, by intro W hW; clear hW; go_simp⟩) hHeld ?_
      simp only [put_laws]
      refine take_d [4, 6, 7, 8, 9, 10] 3 25 (.int .i64 (n : Nat)) rfl rfl (by kernel_rfl) (by kernel_rfl) (by kernel_rfl) (by kernel_rfl) (fun _ _ _ h => h) (Or.inl ⟨by rfl, by intro W hW; clear hW; go_simp⟩) hHeld ?_
      simp only [put_laws]
      refine take_d [6, 7, 8, 9, 10] 5 27 (.int .i64 (bb : Nat)) rfl rfl (by kernel_rfl) (by kernel_rfl) (by kernel_rfl) (by kernel_rfl) (fun _ _ _ h => h) (Or.inl ⟨by rfl, by intro W hW; clear hW; go_simp⟩) hHeld ?_
      simp only [put_laws]
      refine anyZ_ready (rs := [4]) (by kernel_rfl) (by simp) ?_
      refine AllZ.cons rfl (fun K hK => ?_) AllZ.nil
      go_simp
      refine (source_any (some ad) d X x n _ hHeld.rc HXL.out HV.out HKN.out).mono ?_
      rintro e w5 ⟨rfl, hb⟩
      try go_simp
      have hPrev := hHeld
      have hHeld := hHeld.below hb
      clear hPrev
      refine hK.out _ _ hHeld (fun hHeld => ?_)
      clear hK K
      refine anyZ_ready (rs := [6]) (by kernel_rfl) (by simp) ?_
      refine AllZ.cons rfl (fun K hK => ?_) AllZ.nil
      go_simp
      refine (put_any m (src (cs X) x n) (bb : Nat) _ HIS.out.ok HSR.out HBI.out).mono ?_
      rintro e w6 ⟨⟨cc, rfl⟩, hb⟩
      try go_simp
      have hPrev := hHeld
      have hHeld := hHeld.below hb
      clear hPrev
      refine hK.out _ _ hHeld (fun hHeld => ?_)
      clear hK K
      refine take_d [8, 9, 10] 7 21 (.tuple #[.agg (matA (putE m (src (cs X) x n) (bb : Nat))), .bool cc]) rfl rfl (by kernel_rfl) (by kernel_rfl) (by kernel_rfl) (by kernel_rfl) (fun _ _ _ h => h) (Or.inl ⟨by rfl, by intro W hW; clear hW; go_simp⟩) hHeld ?_
      simp only [put_laws]
      refine take_d [10] 8 29 (.agg (matA (putE m (src (cs X) x n) (bb : Nat)))) rfl rfl (by kernel_rfl) (by kernel_rfl) (by kernel_rfl) (by kernel_rfl) (fun _ _ _ h => h) (Or.inl ⟨by rfl, by intro W hW; clear hW; go_simp⟩) hHeld ?_
      simp only [put_laws]
      refine take_e 30 (.bool cc) rfl rfl (by kernel_rfl) (by kernel_rfl) (by kernel_rfl) (fun _ _ _ h => h) (Or.inl ⟨by rfl, by intro W hW; clear hW; go_simp⟩) ?_
      simp only [put_laws]
      refine anyZ_ready (rs := [10]) (by kernel_rfl) (by simp) ?_
      refine AllZ.last rfl rfl (fun K hK => ?_)
      refine step_store_mat rfl 36 (.tmp 3) (.tmp 29) rfl rfl w.heap.size m (putE m (src (cs X) x n) (bb : Nat)) 36 rfl rfl hHeld.bx (matInfo _) ?_
      have HS7 := Lib.hid (hHeld.put (m' := putE m (src (cs X) x n) (bb : Nat)) H.out)
      refine hK.out _ _ ?_
      clear hK K hHeld
      refine anyZ_done (by kernel_rfl) ?_ _
      refine NoPanic.normal ?_
      generalize World.setRow _ w.heap.size (matA (putE m (src (cs X) x n) (bb : Nat))) = w7 at HS7 ⊢
      go_wp2
      go_loopw [33] (BiRel w (some ad) X y bb W0.heap.size (fun i j => G i j ∨ Gb (cs X) bb y.c.rd lf i j) (fun z => lf z && !decide (z = x)) cnt1 x n) (fun i _ => X.length - (intOf i).toNat)
      case atStart => exact ⟨0, _, Nat.zero_le _, rfl, HS7.out, HI7.out⟩
      case round =>
        obtain ⟨k, m2, hk, rfl, hgs, his⟩ := hrel
        have HG2 := Lib.hid hgs
        have HI2 := Lib.hid his
        clear hgs his
        by_cases hlt : k < X.length
        · have hlt' : (k : Int) < (X.length : Int) := by omega
          have hz : X[k]? = some X[k] := List.getElem?_eq_getElem hlt
          generalize hZZ : X[k] = z at hz
          have HZC := Lib.hid (cs_at hz)
          have HKX := Lib.hid hlt
          have HMZ := Lib.hid (List.mem_of_getElem? hz)
          have HGZ := Lib.hid (HG2.out.rc.gc z HMZ.out)
          obtain ⟨ad', e', c0, c1, c2, c3⟩ := atC HG2.out.rc.row hz
          obtain rfl := Option.some.inj e'
          clear hz hZZ e'
          cases hlf2 : left z.c x with
          | false =>
            have HLZ := Lib.hid hlf2
            have HI3 := Lib.hid (Gi_skip HI2.out HZC.out (fun h => by rw [HLZ.out] at h; cases h.1))
            clear hlf2
            go_wp2_with fail
            refine (left_val z x _ HV.out (HG2.out.rc.mp z HMZ.out).2 HLZ.out).mono ?_
            rintro r w8 ⟨rfl, hb8⟩
            have HG3 := Lib.hid (HG2.out.below hb8)
            clear hb8 c0 c1 c2 c3
            go_wp2
            go_roundw
            case rel => exact ⟨k + 1, _, by have := HKX.out; omega, by go_num, HG3.out, HI3.out⟩
            case measure => simp [intOf]; have := HKX.out; omega
          | true =>
            have HLZ := Lib.hid hlf2
            clear hlf2
            by_cases hen : n < z.c.e
            · have hen' : (z.c.e : Int) > (n : Int) := by omega
              have HI3 := Lib.hid (Gi_more HI2.out HZC.out ⟨HLZ.out, hen⟩ (by have := HKX.out; omega) (by omega))
              go_wp2_with fail
              refine (left_val z x _ HV.out (HG2.out.rc.mp z HMZ.out).2 HLZ.out).mono ?_
              rintro r w8 ⟨rfl, hb8⟩
              have HG3 := Lib.hid (HG2.out.below hb8)
              have c0 := (hb8.cell (Rn.cell_lt c0)).trans c0
              clear hb8 c1 c2 c3
              go_wp2_with fail
              refine (end_c HGZ.out _).mono ?_
              rintro r w9 ⟨rfl, rfl⟩
              clear c0
              go_wp2_with (refine wpList_load_row rfl 36 (.tmp 3) rfl w.heap.size rfl 36 (matA m2) (0, 0) _ HG3.out.bx Try.underlying36 rfl (matInfo m2) ?_)
              refine (put_any m2 (bb : Nat) (k : Nat) _ HI2.out.ok HBI.out ⟨by omega, by omega⟩).mono ?_
              rintro r w9 ⟨⟨cc, rfl⟩, hb9⟩
              have HG4 := Lib.hid (HG3.out.below hb9)
              clear hb9
              go_wp2_with (refine wpList_store_row rfl 36 (.tmp 3) (.tmp 57) rfl w.heap.size (matA (putE m2 (bb : Nat) (k : Nat))) rfl rfl 36 _ HG4.out.bx (matInfo _) (by rw [matA_size, matA_size]) (matA_one _) ?_)
              have HG5 := Lib.hid (HG4.out.put (m' := putE m2 (bb : Nat) (k : Nat)) H.out)
              generalize World.setRow _ w.heap.size (matA (putE m2 (bb : Nat) (k : Nat))) = w10 at HG5 ⊢
              go_wp2
              go_roundw
              case rel => exact ⟨k + 1, _, by have := HKX.out; omega, by go_num, HG5.out, HI3.out⟩
              case measure => simp [intOf]; have := HKX.out; omega
            · have hen' : ¬ (z.c.e : Int) > (n : Int) := by omega
              have HI3 := Lib.hid (Gi_skip HI2.out HZC.out (fun h => hen h.2))
              go_wp2_with fail
              refine (left_val z x _ HV.out (HG2.out.rc.mp z HMZ.out).2 HLZ.out).mono ?_
              rintro r w8 ⟨rfl, hb8⟩
              have HG3 := Lib.hid (HG2.out.below hb8)
              have c0 := (hb8.cell (Rn.cell_lt c0)).trans c0
              clear hb8 c1 c2 c3
              go_wp2_with fail
              refine (end_c HGZ.out _).mono ?_
              rintro r w9 ⟨rfl, rfl⟩
              clear c0
              go_wp2
              go_roundw
              case rel => exact ⟨k + 1, _, by have := HKX.out; omega, by go_num, HG3.out, HI3.out⟩
              case measure => simp [intOf]; have := HKX.out; omega
        · have hlt' : ¬ (k : Int) < (X.length : Int) := by omega
          obtain rfl : k = X.length := by omega
          have HI3 := Lib.hid (show Is m2 (fun i j => G i j ∨ Gb (cs X) bb y.c.rd (fun z => lf z && !decide (z = x)) i j) from HI2.out.congr fun i j _ => by
            rw [Gb.next HFX.out HLX.out, Gi.all (by rw [cs_len]; exact Nat.le_refl _), or_assoc])
          go_wp2
          go_roundw
          case rel => exact ⟨_, _, _, HG2.out, HLF4.out, HI3.out⟩
          case measure =>
            rw [HG2.out.nr.left_eq, HGS.out.nr.left_eq]; exact HLTT.out
end Go.Proofs.Ytaonepbongbhoaa.Hi
namespace Go.Proofs.Ytaonepbongbhoaa.Hi
open Go.RowKit
open Tx (i64p)
open Az
theorem before_c {c d : Cr} (h1 : Gc c) (h2 : Gc d) {v : Bool} (hv : decide (c.e < d.b) = v) (w : World) : Calls Try.prog 28 #[.complex .f64 (cr c) (ci c), .complex .f64 (cr d) (ci d)] w fun e w' => e = .returned (.bool v) ∧ w = w' :=
  Cx.before_val _ _ _ _ _ _ v w h1.spn h2.spn (by rw [← hv]; rfl)
theorem matA_zeroL : matA zeroM = #[Value.int .u64 0, Value.int .u64 0, Value.int .u64 0, Value.int .u64 0, Value.int .u64 0, Value.int .u64 0, Value.int .u64 0, Value.int .u64 0, Value.int .u64 0, Value.int .u64 0, Value.int .u64 0, Value.int .u64 0, Value.int .u64 0, Value.int .u64 0, Value.int .u64 0, Value.int .u64 0, Value.int .u64 0, Value.int .u64 0, Value.int .u64 0, Value.int .u64 0, Value.int .u64 0, Value.int .u64 0, Value.int .u64 0, Value.int .u64 0, Value.int .u64 0, Value.int .u64 0, Value.int .u64 0, Value.int .u64 0, Value.int .u64 0, Value.int .u64 0, Value.int .u64 0, Value.int .u64 0] := matA_zero.trans rfl
/-- the result's box, the matrix, the courses. -/
structure GT (w : World) (B : Option Addr) (X : List Co) (q : Nat) (m : Mm.Gr) (W : World) : Prop where
  re : MatAt W w.heap.size zeroM 36
  bx : MatAt W q m 36
  rc : RdC W B X
  bel : Below w.heap.size w W
section
variable {w : World} {B : Option Addr} {X : List Co} {q : Nat} {m : Mm.Gr}
theorem GT.below {W W' : World} (h : GT w B X q m W) (hb : Below W.heap.size W W') : GT w B X q m W' := ⟨h.re.below hb, h.bx.below hb, h.rc.below hb, h.bel.trans (hb.mono h.bel.size)⟩
theorem GT.drew {W : World} (h : GT w B X q m W) : GT w B X q m W.drew := h.below (Below.refl _ _).drew
theorem GT.put {W w1 : World} {m' : Mm.Gr} (h : GT w B X q m W) (h0 : RdC w1 B X) (hb1 : Below w1.heap.size w1 W) (hq : w1.heap.size ≤ q) (hw : w.heap.size < q) : GT w B X q m' (W.setRow q (matA m')) ∧ Below w1.heap.size w1 (W.setRow q (matA m')) :=
  ⟨⟨h.re.setRow _ (by omega), matAt_put h.bx, h0.below (setRow_below hb1 hq), setRow_below h.bel (by omega)⟩, setRow_below hb1 hq⟩
end
/-- the edges of those whose turn was; of k with the first a. -/
def Gk (l : List Cr) (k : Nat) (i j : Nat) : Prop := ∃ b, b < k ∧ Eb l b i j
def Ga (l : List Cr) (k a : Nat) (i j : Nat) : Prop := ∃ c, l[k]? = some c ∧ j = k ∧ i ≠ k ∧ i < a ∧ ∃ d, l[i]? = some d ∧ (d.e < c.b ∨ OvW c d)
theorem Ga_skip {l : List Cr} {k a : Nat} {m : Mm.Gr} {G : Nat → Nat → Prop} {c d : Cr} (h : Is m (fun i j => G i j ∨ Ga l k a i j)) (hc : l[k]? = some c) (hd : l[a]? = some d) (hno : ¬ (d.e < c.b ∨ OvW c d)) : Is m (fun i j => G i j ∨ Ga l k (a + 1) i j) := by
  refine h.congr fun i j _ => or_congr_right ?_
  unfold Ga
  constructor
  · rintro ⟨c', h1, h2, h3, h4, h5⟩; exact ⟨c', h1, h2, h3, by omega, h5⟩
  · rintro ⟨c', h1, h2, h3, h4, d', h5, h6⟩
    refine ⟨c', h1, h2, h3, ?_, d', h5, h6⟩
    rcases Nat.lt_or_ge i a with hi | hi
    · exact hi
    · obtain rfl : i = a := by omega
      rw [hd] at h5; rw [hc] at h1
      obtain rfl := Option.some.inj h5
      obtain rfl := Option.some.inj h1
      exact absurd h6 hno
theorem Ga_more {l : List Cr} {k a : Nat} {m : Mm.Gr} {G : Nat → Nat → Prop} {c d : Cr} (h : Is m (fun i j => G i j ∨ Ga l k a i j)) (hc : l[k]? = some c) (hd : l[a]? = some d) (hyes : d.e < c.b ∨ OvW c d) (ha : (a : Int) < 32) (hk : (k : Int) < 32) : Is (putE m (a : Nat) (k : Nat)) (fun i j => G i j ∨ Ga l k (a + 1) i j) := by
  refine (h.putE (a : Nat) (k : Nat) ha ⟨by omega, hk⟩).congr fun i j _ => ?_
  rw [or_assoc]
  refine or_congr_right ?_
  unfold Ga
  constructor
  · rintro (⟨c', h1, h2, h3, h4, h5⟩ | ⟨h1, h2, h3⟩)
    · exact ⟨c', h1, h2, h3, by omega, h5⟩
    · obtain rfl : i = a := by omega
      obtain rfl : j = k := by omega
      exact ⟨c, hc, rfl, by omega, Nat.lt_succ_self _, d, hd, hyes⟩
  · rintro ⟨c', h1, h2, h3, h4, h5⟩
    rcases Nat.lt_or_ge i a with hi | hi
    · exact .inl ⟨c', h1, h2, h3, hi, h5⟩
    · obtain rfl : i = a := by omega
      exact .inr ⟨rfl, by omega, by omega⟩
theorem Gk_more {l : List Cr} {k : Nat} {c : Cr} (hc : l[k]? = some c) (i j : Nat) : ((Gk l k i j ∨ Ga l k l.length i j) ∨ ∃ x n, c.rd x = some n ∧ Ed l k x n i j) ↔ Gk l (k + 1) i j := by
  unfold Gk Ga
  constructor
  · rintro ((⟨b, h1, h2⟩ | ⟨c', h1, h2, h3, h4, h5⟩) | h)
    · exact ⟨b, by omega, h2⟩
    · exact ⟨k, Nat.lt_succ_self _, c', h1, .inl ⟨h2, h3, h5⟩⟩
    · exact ⟨k, Nat.lt_succ_self _, c, hc, .inr h⟩
  · rintro ⟨b, h1, h2⟩
    rcases Nat.lt_or_ge b k with hb | hb
    · exact .inl (.inl ⟨b, hb, h2⟩)
    · obtain rfl : b = k := by omega
      obtain ⟨c', h3, h4⟩ := h2
      rw [hc] at h3
      obtain rfl := Option.some.inj h3
      rcases h4 with ⟨h5, h6, d, h7, h8⟩ | h4
      · exact .inl (.inr ⟨c, hc, h5, h6, (List.getElem?_eq_some_iff.1 h7).1, d, h7, h8⟩)
      · exact .inr h4
theorem Gk_all (l : List Cr) (i j : Nat) : Gk l l.length i j ↔ Ge l i j := by
  unfold Gk Ge
  constructor
  · rintro ⟨b, _, h⟩; exact ⟨b, h⟩
  · rintro ⟨b, c, hc, h⟩; exact ⟨b, (List.getElem?_eq_some_iff.1 hc).1, c, hc, h⟩
def GoRel (w : World) (B : Option Addr) (X : List Co) (q : Nat) (w1 : World) (i : Value) (wr : World) : Prop := ∃ k m, k ≤ X.length ∧ i = .int .i64 (k : Nat) ∧ GT w B X q m wr ∧ Below w1.heap.size w1 wr ∧ Is m (Gk (cs X) k)
def GnRel (w : World) (B : Option Addr) (X : List Co) (q : Nat) (w1 : World) (k : Nat) (i : Value) (wr : World) : Prop := ∃ a m, a ≤ X.length ∧ i = .int .i64 (a : Nat) ∧ GT w B X q m wr ∧ Below w1.heap.size w1 wr ∧ Is m (fun i j => Gk (cs X) k i j ∨ Ga (cs X) k a i j)
def GrPost (L : List Ev) (w : World) (r : Ending) (w' : World) : Prop := ∃ m, r = .returned (.tuple #[.agg (matA m), .bool (crs L).isSome]) ∧ Is m (Ge (crL L)) ∧ Below w.heap.size w w'
/-- the matrix, and what was there when it was made. -/
structure GU (w : World) (B : Option Addr) (X : List Co) (q : Nat) (w1 : World) (m : Mm.Gr) (W : World) : Prop where
  gt : GT w B X q m W
  be : Below w1.heap.size w1 W
theorem GU.below {w : World} {B : Option Addr} {X : List Co} {q : Nat} {w1 : World} {m : Mm.Gr} {W W' : World} (h : GU w B X q w1 m W) (hb : Below W.heap.size W W') : GU w B X q w1 m W' := ⟨h.gt.below hb, h.be.trans (hb.mono h.be.size)⟩
theorem GU.drew {w : World} {B : Option Addr} {X : List Co} {q : Nat} {w1 : World} {m : Mm.Gr} {W : World} (h : GU w B X q w1 m W) : GU w B X q w1 m W.drew := h.below (Below.refl _ _).drew
set_option maxRecDepth 100000 in
set_option maxHeartbeats 8000000 in
theorem graph_any (A : Option Addr) (c : Nat) (L : List Ev) (w : World) (h : Rn.At encE w A L) (hok : ∀ e ∈ L, e.ok) (hl : L.length ≤ 2000) :
    Calls Try.prog 12 #[.slice A L.length c] w (GrPost L w) := by
  have HC := Lib.hid (courses_s A c L (w.alloc (.cells #[Value.int .u64 0, Value.int .u64 0, Value.int .u64 0, Value.int .u64 0, Value.int .u64 0, Value.int .u64 0, Value.int .u64 0, Value.int .u64 0, Value.int .u64 0, Value.int .u64 0, Value.int .u64 0, Value.int .u64 0, Value.int .u64 0, Value.int .u64 0, Value.int .u64 0, Value.int .u64 0, Value.int .u64 0, Value.int .u64 0, Value.int .u64 0, Value.int .u64 0, Value.int .u64 0, Value.int .u64 0, Value.int .u64 0, Value.int .u64 0, Value.int .u64 0, Value.int .u64 0, Value.int .u64 0, Value.int .u64 0, Value.int .u64 0, Value.int .u64 0, Value.int .u64 0, Value.int .u64 0] 36)) (h.alloc _) hok hl)
  have HZM := Lib.hid (show MatAt (w.alloc (.cells #[Value.int .u64 0, Value.int .u64 0, Value.int .u64 0, Value.int .u64 0, Value.int .u64 0, Value.int .u64 0, Value.int .u64 0, Value.int .u64 0, Value.int .u64 0, Value.int .u64 0, Value.int .u64 0, Value.int .u64 0, Value.int .u64 0, Value.int .u64 0, Value.int .u64 0, Value.int .u64 0, Value.int .u64 0, Value.int .u64 0, Value.int .u64 0, Value.int .u64 0, Value.int .u64 0, Value.int .u64 0, Value.int .u64 0, Value.int .u64 0, Value.int .u64 0, Value.int .u64 0, Value.int .u64 0, Value.int .u64 0, Value.int .u64 0, Value.int .u64 0, Value.int .u64 0, Value.int .u64 0] 36)) w.heap.size zeroM 36 from zero_lit w 36)
  have HB0 := Lib.hid (Rn.below_new w (.cells #[Value.int .u64 0, Value.int .u64 0, Value.int .u64 0, Value.int .u64 0, Value.int .u64 0, Value.int .u64 0, Value.int .u64 0, Value.int .u64 0, Value.int .u64 0, Value.int .u64 0, Value.int .u64 0, Value.int .u64 0, Value.int .u64 0, Value.int .u64 0, Value.int .u64 0, Value.int .u64 0, Value.int .u64 0, Value.int .u64 0, Value.int .u64 0, Value.int .u64 0, Value.int .u64 0, Value.int .u64 0, Value.int .u64 0, Value.int .u64 0, Value.int .u64 0, Value.int .u64 0, Value.int .u64 0, Value.int .u64 0, Value.int .u64 0, Value.int .u64 0, Value.int .u64 0, Value.int .u64 0] 36))
  have HOKL := Lib.hid (crL_okL hl)
  have HLL := Lib.hid hl
  clear h hok
  unfold GrPost
  generalize hcr : (crs L).isSome = b at HC ⊢
  have HCR := Lib.hid hcr
  clear hcr
  go_enter Try.func12, Try.ntmps12
  go_wp2_with fail
  refine HC.out.mono ?_
  rintro r w1 ⟨B, d, X, rfl, hX, h1, h2, hr, he, hb⟩
  have HB1 := Lib.hid (HB0.out.trans (hb.mono HB0.out.size))
  have HR := Lib.hid hr
  have HE := Lib.hid he
  have HX := Lib.hid hX
  have HZ1 := Lib.hid (HZM.out.below hb)
  have HS1 := Lib.hid (show w.heap.size < w1.heap.size from by have := hb.size; rw [Rn.size_new] at this; omega)
  have hXN : (X.length : Int) ≤ 32 := by omega
  clear hb he hr hX
  rw [HCR.out]
  cases b with
  | false =>
    have HLE := Lib.hid (show Is zeroM (Ge (crL L)) from by
      have e : crL L = [] := by
        unfold crL
        cases hc : crs L with
        | none => rfl
        | some l => have := HCR.out; rw [hc] at this; cases this
      rw [e]
      exact Is.zero.congr fun i j _ => ⟨fun h => h.elim, fun ⟨b, c, h, _⟩ => by simp at h⟩)
    go_wp2_with (refine wpList_store_row rfl 36 (.tmp 2) (.tmp 16) rfl w.heap.size #[Value.int .u64 0, Value.int .u64 0, Value.int .u64 0, Value.int .u64 0, Value.int .u64 0, Value.int .u64 0, Value.int .u64 0, Value.int .u64 0, Value.int .u64 0, Value.int .u64 0, Value.int .u64 0, Value.int .u64 0, Value.int .u64 0, Value.int .u64 0, Value.int .u64 0, Value.int .u64 0, Value.int .u64 0, Value.int .u64 0, Value.int .u64 0, Value.int .u64 0, Value.int .u64 0, Value.int .u64 0, Value.int .u64 0, Value.int .u64 0, Value.int .u64 0, Value.int .u64 0, Value.int .u64 0, Value.int .u64 0, Value.int .u64 0, Value.int .u64 0, Value.int .u64 0, Value.int .u64 0] rfl rfl 36 _ HZ1.out (by rw [← matA_zeroL]; exact matInfo _) (by rw [← matA_zeroL]) (by rw [← matA_zeroL]; exact matA_one _) ?_)
    refine bodyPost_ret (results_row_tmp rfl _ _ w.heap.size 36 #[Value.int .u64 0, Value.int .u64 0, Value.int .u64 0, Value.int .u64 0, Value.int .u64 0, Value.int .u64 0, Value.int .u64 0, Value.int .u64 0, Value.int .u64 0, Value.int .u64 0, Value.int .u64 0, Value.int .u64 0, Value.int .u64 0, Value.int .u64 0, Value.int .u64 0, Value.int .u64 0, Value.int .u64 0, Value.int .u64 0, Value.int .u64 0, Value.int .u64 0, Value.int .u64 0, Value.int .u64 0, Value.int .u64 0, Value.int .u64 0, Value.int .u64 0, Value.int .u64 0, Value.int .u64 0, Value.int .u64 0, Value.int .u64 0, Value.int .u64 0, Value.int .u64 0, Value.int .u64 0] (0, 0) _ _ (.bool false) rfl rfl (setRow_heap _ _ _ _ _ _ HZ1.out) Try.underlying36 (by rw [← matA_zeroL]; exact matInfo _)) rfl ⟨zeroM, by rw [matA_zeroL], HLE.out, ?_⟩
    exact setRow_below HB1.out (Nat.le_refl _)
  | true =>
    have HT0 := Lib.hid (show GT w B X w1.heap.size zeroM (w1.alloc (.cells #[Value.int .u64 0, Value.int .u64 0, Value.int .u64 0, Value.int .u64 0, Value.int .u64 0, Value.int .u64 0, Value.int .u64 0, Value.int .u64 0, Value.int .u64 0, Value.int .u64 0, Value.int .u64 0, Value.int .u64 0, Value.int .u64 0, Value.int .u64 0, Value.int .u64 0, Value.int .u64 0, Value.int .u64 0, Value.int .u64 0, Value.int .u64 0, Value.int .u64 0, Value.int .u64 0, Value.int .u64 0, Value.int .u64 0, Value.int .u64 0, Value.int .u64 0, Value.int .u64 0, Value.int .u64 0, Value.int .u64 0, Value.int .u64 0, Value.int .u64 0, Value.int .u64 0, Value.int .u64 0] 36)) from ⟨HZ1.out.alloc _, zero_lit w1 36, HR.out.below (Rn.below_new _ _), HB1.out.alloc HB1.out.size _⟩)
    have HT1 := Lib.hid (Rn.below_new w1 (.cells #[Value.int .u64 0, Value.int .u64 0, Value.int .u64 0, Value.int .u64 0, Value.int .u64 0, Value.int .u64 0, Value.int .u64 0, Value.int .u64 0, Value.int .u64 0, Value.int .u64 0, Value.int .u64 0, Value.int .u64 0, Value.int .u64 0, Value.int .u64 0, Value.int .u64 0, Value.int .u64 0, Value.int .u64 0, Value.int .u64 0, Value.int .u64 0, Value.int .u64 0, Value.int .u64 0, Value.int .u64 0, Value.int .u64 0, Value.int .u64 0, Value.int .u64 0, Value.int .u64 0, Value.int .u64 0, Value.int .u64 0, Value.int .u64 0, Value.int .u64 0, Value.int .u64 0, Value.int .u64 0] 36))
    have HQ := Lib.hid (show w1.heap.size ≤ w1.heap.size ∧ w.heap.size < w1.heap.size from ⟨Nat.le_refl _, HS1.out⟩)
    have HR1 := Lib.hid HR.out
    clear HR HS1 HZ1 HZM HB0
    go_wp2
    generalize w1.alloc (.cells #[Value.int .u64 0, Value.int .u64 0, Value.int .u64 0, Value.int .u64 0, Value.int .u64 0, Value.int .u64 0, Value.int .u64 0, Value.int .u64 0, Value.int .u64 0, Value.int .u64 0, Value.int .u64 0, Value.int .u64 0, Value.int .u64 0, Value.int .u64 0, Value.int .u64 0, Value.int .u64 0, Value.int .u64 0, Value.int .u64 0, Value.int .u64 0, Value.int .u64 0, Value.int .u64 0, Value.int .u64 0, Value.int .u64 0, Value.int .u64 0, Value.int .u64 0, Value.int .u64 0, Value.int .u64 0, Value.int .u64 0, Value.int .u64 0, Value.int .u64 0, Value.int .u64 0, Value.int .u64 0] 36) = W1 at HT0 HT1 ⊢
    generalize hq : w1.heap.size = q at HT0 HQ ⊢
    have HQE := Lib.hid hq
    clear hq
    go_loopw [19] (GoRel w B X q w1) (fun i _ => X.length - (intOf i).toNat)
    case atStart => exact ⟨0, _, Nat.zero_le _, rfl, HT0.out, HT1.out, Is.zero.congr fun i j _ => ⟨fun h => h.elim, fun ⟨b, h, _⟩ => by omega⟩⟩
    case round =>
      obtain ⟨k, m, hk, rfl, hgt, hbe, his⟩ := hrel
      have HG0 := Lib.hid hgt
      have HBE := Lib.hid hbe
      have HI0 := Lib.hid his
      clear hgt hbe his
      by_cases hlt : k < X.length
      · have hlt' : (k : Int) < (X.length : Int) := by omega
        have hy : X[k]? = some X[k] := List.getElem?_eq_getElem hlt
        generalize hYY : X[k] = y at hy
        have HKB := Lib.hid hlt
        have HKN := Lib.hid hlt'
        have HY := Lib.hid hy
        have HCY := Lib.hid (cs_at hy)
        have HMY := Lib.hid (List.mem_of_getElem? hy)
        have HGY := Lib.hid (HR1.out.gc y HMY.out)
        have HOY := Lib.hid (show Okc L.length y.c from HOKL.out _ (by rw [← HE.out]; exact List.mem_map_of_mem HMY.out))
        have HFY := Lib.hid (show ∀ v n, y.c.wr v = some n → 0 ≤ v ∧ v < 64 from fun v n h => by have := HOY.out.wr v n h; omega)
        obtain ⟨ad, rfl, _⟩ := atC HR1.out.row hy
        clear hy hYY
        go_wp2
        go_loopw [24] (GnRel w (some ad) X q w1 k) (fun i _ => X.length - (intOf i).toNat)
        case atStart => exact ⟨0, _, Nat.zero_le _, rfl, HG0.out, HBE.out, HI0.out.congr fun i j _ => ⟨fun h => .inl h, fun h => h.elim id (fun ⟨_, _, _, _, h, _⟩ => by omega)⟩⟩
        case round =>
          obtain ⟨a, m, ha, rfl, hgt, hbe, his⟩ := hrel
          have HU := Lib.hid (show GU w (some ad) X q w1 m wr from ⟨hgt, hbe⟩)
          have HI := Lib.hid his
          clear hgt hbe his
          by_cases hla : a < X.length
          · have hla' : (a : Int) < (X.length : Int) := by omega
            have hz : X[a]? = some X[a] := List.getElem?_eq_getElem hla
            generalize hZZ : X[a] = z at hz
            have HAB := Lib.hid hla
            have HAN := Lib.hid hla'
            have HZ := Lib.hid hz
            have HCZ := Lib.hid (cs_at hz)
            have HMZ := Lib.hid (List.mem_of_getElem? hz)
            have HGZ := Lib.hid (HR1.out.gc z HMZ.out)
            clear hz hZZ
            cases hbf : decide (z.c.e < y.c.b) with
            | true =>
              have HBF := Lib.hid hbf
              clear hbf
              go_wp2
              refine wp_region_noPanic ?_
              refine region_z 22 (fun W => GU w (some ad) X q w1 m W) 22 1000 rfl (by kernel_rfl) (by exact HU.out.drew) (fun hHeld => ?_)
              refine take_d [2, 3, 4, 10, 11, 12, 13, 14, 15, 16, 17, 18, 19, 20, 21] 0 27 (.slice (some ad) X.length d) rfl rfl (by kernel_rfl) (by kernel_rfl) (by kernel_rfl) (by kernel_rfl) (fun _ _ _ h => h) (Or.inl ⟨by rfl, by intro W hW; clear hW; go_simp⟩) hHeld ?_
              simp only [put_laws]
              refine take_d [2, 3, 4, 10, 11, 12, 13, 14, 15, 16, 17, 18, 19, 20, 21] 1 28 (.int .i64 (a : Nat)) rfl rfl (by kernel_rfl) (by kernel_rfl) (by kernel_rfl) (by kernel_rfl) (fun _ _ _ h => h) (Or.inl ⟨by rfl, by intro W hW; clear hW; go_simp⟩) hHeld ?_
              simp only [put_laws]
              refine take_d [3, 4, 10, 11, 12, 13, 14, 15, 16, 17, 18, 19, 20, 21] 2 29 (.pointer (some (ad.add (a * 4)))) rfl rfl (by kernel_rfl) (by kernel_rfl) (by kernel_rfl) (by kernel_rfl) (fun _ _ _ h => h) (Or.inl ⟨by rfl, by intro W hW; have h1 := HAB.out; have h2 := HAN.out; clear hW; go_simp⟩) hHeld ?_
              simp only [put_laws]
              refine take_d [4, 10, 11, 12, 13, 14, 15, 16, 17, 18, 19, 20, 21] 3 30 (.pointer (some (ad.add (a * 4)))) rfl rfl (by kernel_rfl) (by kernel_rfl) (by kernel_rfl) (by kernel_rfl) (fun _ _ _ h => h) (Or.inl ⟨by rfl, by intro W hW; clear hW; go_simp⟩) hHeld ?_
              simp only [put_laws]
              refine take_d [10, 11, 12, 13, 14, 15, 16, 17, 18, 19, 20, 21] 4 31 (.complex .f64 (cr z.c) (ci z.c)) rfl rfl (by kernel_rfl) (by kernel_rfl) (by kernel_rfl) (by kernel_rfl) (fun _ _ _ h => h) (Or.inl ⟨by rfl, by intro W hW; have hh := atC hW.gt.rc.row HZ.out; obtain ⟨ad2, e2, hh⟩ := hh; have e2 := Option.some.inj e2; subst e2; obtain ⟨z0, z1, z2, z3⟩ := hh; clear hW; go_simp⟩) hHeld ?_
              simp only [put_laws]
              refine take_d [7, 8, 9, 10, 11, 12, 13, 14, 15, 16, 17, 18, 19, 20, 21] 5 32 (.slice (some ad) X.length d) rfl rfl (by kernel_rfl) (by kernel_rfl) (by kernel_rfl) (by kernel_rfl) (fun _ _ _ h => h) (Or.inl ⟨by rfl, by intro W hW; clear hW; go_simp⟩) hHeld ?_
              simp only [put_laws]
              refine take_d [7, 8, 9, 10, 11, 12, 13, 14, 15, 16, 17, 18, 19, 20, 21] 6 33 (.int .i64 (k : Nat)) rfl rfl (by kernel_rfl) (by kernel_rfl) (by kernel_rfl) (by kernel_rfl) (fun _ _ _ h => h) (Or.inl ⟨by rfl, by intro W hW; clear hW; go_simp⟩) hHeld ?_
              simp only [put_laws]
              refine take_d [8, 9, 10, 11, 12, 13, 14, 15, 16, 17, 18, 19, 20, 21] 7 34 (.pointer (some (ad.add (k * 4)))) rfl rfl (by kernel_rfl) (by kernel_rfl) (by kernel_rfl) (by kernel_rfl) (fun _ _ _ h => h) (Or.inl ⟨by rfl, by intro W hW; have h1 := HKB.out; have h2 := HKN.out; clear hW; go_simp⟩) hHeld ?_
              simp only [put_laws]
              refine take_d [9, 10, 11, 12, 13, 14, 15, 16, 17, 18, 19, 20, 21] 8 35 (.pointer (some (ad.add (k * 4)))) rfl rfl (by kernel_rfl) (by kernel_rfl) (by kernel_rfl) (by kernel_rfl) (fun _ _ _ h => h) (Or.inl ⟨by rfl, by intro W hW; clear hW; go_simp⟩) hHeld ?_
              simp only [put_laws]
              refine take_d [10, 11, 12, 13, 14, 15, 16, 17, 18, 19, 20, 21] 9 36 (.complex .f64 (cr y.c) (ci y.c)) rfl rfl (by kernel_rfl) (by kernel_rfl) (by kernel_rfl) (by kernel_rfl) (fun _ _ _ h => h) (Or.inl ⟨by rfl, by intro W hW; have hh := atC hW.gt.rc.row HY.out; obtain ⟨ad2, e2, hh⟩ := hh; have e2 := Option.some.inj e2; subst e2; obtain ⟨z0, z1, z2, z3⟩ := hh; clear hW; go_simp⟩) hHeld ?_
              simp only [put_laws]
              refine anyZ_ready (rs := [10]) (by kernel_rfl) (by simp) ?_
              refine AllZ.cons rfl (fun K hK => ?_) AllZ.nil
              go_simp
              refine (before_c HGZ.out HGY.out HBF.out _).mono ?_
              rintro e w2 ⟨rfl, rfl⟩
              try go_simp
              have hPrev := hHeld
              have hHeld := hPrev
              clear hPrev
              refine hK.out _ _ hHeld (fun hHeld => ?_)
              clear hK K
              refine take_d [12, 13, 14, 15, 16, 17, 18, 19, 20, 21] 11 38 (.bool true) rfl rfl (by kernel_rfl) (by kernel_rfl) (by kernel_rfl) (by kernel_rfl) (fun _ _ _ h => h) (Or.inl ⟨by rfl, by intro W hW; clear hW; go_simp⟩) hHeld ?_
              simp only [put_laws]
              refine take_d [14, 15, 20, 21] 12 39 undef rfl rfl (by kernel_rfl) (by kernel_rfl) (by kernel_rfl) (by kernel_rfl) (fun _ _ _ h => h) (Or.inr ⟨by rfl, rfl⟩) hHeld ?_
              simp only [put_laws]
              refine take_d [14, 15, 20, 21] 13 40 undef rfl rfl (by kernel_rfl) (by kernel_rfl) (by kernel_rfl) (by kernel_rfl) (fun _ _ _ h => h) (Or.inr ⟨by rfl, rfl⟩) hHeld ?_
              simp only [put_laws]
              refine take_d [15, 20, 21] 14 41 undef rfl rfl (by kernel_rfl) (by kernel_rfl) (by kernel_rfl) (by kernel_rfl) (fun _ _ _ h => h) (Or.inr ⟨by rfl, rfl⟩) hHeld ?_
              simp only [put_laws]
              refine take_d [20, 21] 15 42 undef rfl rfl (by kernel_rfl) (by kernel_rfl) (by kernel_rfl) (by kernel_rfl) (fun _ _ _ h => h) (Or.inr ⟨by rfl, rfl⟩) hHeld ?_
              simp only [put_laws]
              refine take_d [18, 19, 20, 21] 16 43 undef rfl rfl (by kernel_rfl) (by kernel_rfl) (by kernel_rfl) (by kernel_rfl) (fun _ _ _ h => h) (Or.inr ⟨by rfl, rfl⟩) hHeld ?_
              simp only [put_laws]
              refine take_d [18, 19, 20, 21] 17 44 undef rfl rfl (by kernel_rfl) (by kernel_rfl) (by kernel_rfl) (by kernel_rfl) (fun _ _ _ h => h) (Or.inr ⟨by rfl, rfl⟩) hHeld ?_
              simp only [put_laws]
              refine take_d [19, 20, 21] 18 45 undef rfl rfl (by kernel_rfl) (by kernel_rfl) (by kernel_rfl) (by kernel_rfl) (fun _ _ _ h => h) (Or.inr ⟨by rfl, rfl⟩) hHeld ?_
              simp only [put_laws]
              refine take_d [20, 21] 19 46 undef rfl rfl (by kernel_rfl) (by kernel_rfl) (by kernel_rfl) (by kernel_rfl) (fun _ _ _ h => h) (Or.inr ⟨by rfl, rfl⟩) hHeld ?_
              simp only [put_laws]
              refine take_d [21] 20 47 undef rfl rfl (by kernel_rfl) (by kernel_rfl) (by kernel_rfl) (by kernel_rfl) (fun _ _ _ h => h) (Or.inr ⟨by rfl, rfl⟩) hHeld ?_
              simp only [put_laws]
              refine take_d [] 21 48 (.bool true) rfl rfl (by kernel_rfl) (by kernel_rfl) (by kernel_rfl) (by kernel_rfl) (fun _ _ _ h => h) (Or.inl ⟨by rfl, by intro W hW; clear hW; go_simp⟩) hHeld ?_
              simp only [put_laws]
              refine anyZ_done (by kernel_rfl) ?_ _
              refine NoPanic.normal ?_
              have HU2 := Lib.hid hHeld
              have HI2 := Lib.hid (Ga_more HI.out HCY.out HCZ.out (.inl (by simpa using HBF.out)) (by omega) (by omega))
              clear hHeld
              go_wp2_with (refine wpList_load_row rfl 36 (.tmp 6) rfl q rfl 36 (matA m) (0, 0) _ HU2.out.gt.bx Try.underlying36 rfl (matInfo m) ?_)
              refine (put_any m (a : Nat) (k : Nat) _ HI.out.ok ⟨by omega, by omega⟩ ⟨by omega, by omega⟩).mono ?_
              rintro r w4 ⟨⟨cc, rfl⟩, hb4⟩
              have HU3 := Lib.hid (HU2.out.below hb4)
              clear hb4
              go_wp2_with (refine wpList_store_row rfl 36 (.tmp 6) (.tmp 54) rfl q (matA (putE m (a : Nat) (k : Nat))) rfl rfl 36 _ HU3.out.gt.bx (matInfo _) (by rw [matA_size, matA_size]) (matA_one _) ?_)
              have HU4 := Lib.hid (HU3.out.gt.put (m' := putE m (a : Nat) (k : Nat)) HR1.out HU3.out.be (by rw [HQE.out]; exact Nat.le_refl _) HQ.out.2)
              generalize World.setRow _ q (matA (putE m (a : Nat) (k : Nat))) = w5 at HU4 ⊢
              go_wp2
              go_roundw
              case rel => exact ⟨a + 1, _, by have := HAB.out; omega, by go_num, HU4.out.1, HU4.out.2, HI2.out⟩
              case measure => simp [intOf]; have := HAB.out; omega
            | false =>
              have HBF := Lib.hid hbf
              clear hbf
              go_wp2
              refine wp_region_noPanic ?_
              refine region_z 22 (fun W => GU w (some ad) X q w1 m W) 22 1000 rfl (by kernel_rfl) (by exact HU.out.drew) (fun hHeld => ?_)
              refine take_d [2, 3, 4, 10, 11, 12, 13, 14, 15, 16, 17, 18, 19, 20, 21] 0 27 (.slice (some ad) X.length d) rfl rfl (by kernel_rfl) (by kernel_rfl) (by kernel_rfl) (by kernel_rfl) (fun _ _ _ h => h) (Or.inl ⟨by rfl, by intro W hW; clear hW; go_simp⟩) hHeld ?_
              simp only [put_laws]
              refine take_d [2, 3, 4, 10, 11, 12, 13, 14, 15, 16, 17, 18, 19, 20, 21] 1 28 (.int .i64 (a : Nat)) rfl rfl (by kernel_rfl) (by kernel_rfl) (by kernel_rfl) (by kernel_rfl) (fun _ _ _ h => h) (Or.inl ⟨by rfl, by intro W hW; clear hW; go_simp⟩) hHeld ?_
              simp only [put_laws]
              refine take_d [3, 4, 10, 11, 12, 13, 14, 15, 16, 17, 18, 19, 20, 21] 2 29 (.pointer (some (ad.add (a * 4)))) rfl rfl (by kernel_rfl) (by kernel_rfl) (by kernel_rfl) (by kernel_rfl) (fun _ _ _ h => h) (Or.inl ⟨by rfl, by intro W hW; have h1 := HAB.out; have h2 := HAN.out; clear hW; go_simp⟩) hHeld ?_
              simp only [put_laws]
              refine take_d [4, 10, 11, 12, 13, 14, 15, 16, 17, 18, 19, 20, 21] 3 30 (.pointer (some (ad.add (a * 4)))) rfl rfl (by kernel_rfl) (by kernel_rfl) (by kernel_rfl) (by kernel_rfl) (fun _ _ _ h => h) (Or.inl ⟨by rfl, by intro W hW; clear hW; go_simp⟩) hHeld ?_
              simp only [put_laws]
              refine take_d [10, 11, 12, 13, 14, 15, 16, 17, 18, 19, 20, 21] 4 31 (.complex .f64 (cr z.c) (ci z.c)) rfl rfl (by kernel_rfl) (by kernel_rfl) (by kernel_rfl) (by kernel_rfl) (fun _ _ _ h => h) (Or.inl ⟨by rfl, by intro W hW; have hh := atC hW.gt.rc.row HZ.out; obtain ⟨ad2, e2, hh⟩ := hh; have e2 := Option.some.inj e2; subst e2; obtain ⟨z0, z1, z2, z3⟩ := hh; clear hW; go_simp⟩) hHeld ?_
              simp only [put_laws]
              refine take_d [7, 8, 9, 10, 11, 12, 13, 14, 15, 16, 17, 18, 19, 20, 21] 5 32 (.slice (some ad) X.length d) rfl rfl (by kernel_rfl) (by kernel_rfl) (by kernel_rfl) (by kernel_rfl) (fun _ _ _ h => h) (Or.inl ⟨by rfl, by intro W hW; clear hW; go_simp⟩) hHeld ?_
              simp only [put_laws]
              refine take_d [7, 8, 9, 10, 11, 12, 13, 14, 15, 16, 17, 18, 19, 20, 21] 6 33 (.int .i64 (k : Nat)) rfl rfl (by kernel_rfl) (by kernel_rfl) (by kernel_rfl) (by kernel_rfl) (fun _ _ _ h => h) (Or.inl ⟨by rfl, by intro W hW; clear hW; go_simp⟩) hHeld ?_
              simp only [put_laws]
              refine take_d [8, 9, 10, 11, 12, 13, 14, 15, 16, 17, 18, 19, 20, 21] 7 34 (.pointer (some (ad.add (k * 4)))) rfl rfl (by kernel_rfl) (by kernel_rfl) (by kernel_rfl) (by kernel_rfl) (fun _ _ _ h => h) (Or.inl ⟨by rfl, by intro W hW; have h1 := HKB.out; have h2 := HKN.out; clear hW; go_simp⟩) hHeld ?_
              simp only [put_laws]
              refine take_d [9, 10, 11, 12, 13, 14, 15, 16, 17, 18, 19, 20, 21] 8 35 (.pointer (some (ad.add (k * 4)))) rfl rfl (by kernel_rfl) (by kernel_rfl) (by kernel_rfl) (by kernel_rfl) (fun _ _ _ h => h) (Or.inl ⟨by rfl, by intro W hW; clear hW; go_simp⟩) hHeld ?_
              simp only [put_laws]
              refine take_d [10, 11, 12, 13, 14, 15, 16, 17, 18, 19, 20, 21] 9 36 (.complex .f64 (cr y.c) (ci y.c)) rfl rfl (by kernel_rfl) (by kernel_rfl) (by kernel_rfl) (by kernel_rfl) (fun _ _ _ h => h) (Or.inl ⟨by rfl, by intro W hW; have hh := atC hW.gt.rc.row HY.out; obtain ⟨ad2, e2, hh⟩ := hh; have e2 := Option.some.inj e2; subst e2; obtain ⟨z0, z1, z2, z3⟩ := hh; clear hW; go_simp⟩) hHeld ?_
              simp only [put_laws]
              refine anyZ_ready (rs := [10]) (by kernel_rfl) (by simp) ?_
              refine AllZ.cons rfl (fun K hK => ?_) AllZ.nil
              go_simp
              refine (before_c HGZ.out HGY.out HBF.out _).mono ?_
              rintro e w2 ⟨rfl, rfl⟩
              try go_simp
              have hPrev := hHeld
              have hHeld := hPrev
              clear hPrev
              refine hK.out _ _ hHeld (fun hHeld => ?_)
              clear hK K
              refine take_d [12, 13, 14, 15, 16, 17, 18, 19, 20, 21] 11 38 (.bool false) rfl rfl (by kernel_rfl) (by kernel_rfl) (by kernel_rfl) (by kernel_rfl) (fun _ _ _ h => h) (Or.inl ⟨by rfl, by intro W hW; clear hW; go_simp⟩) hHeld ?_
              simp only [put_laws]
              refine take_d [14, 15, 20, 21] 12 39 (.slice (some ad) X.length d) rfl rfl (by kernel_rfl) (by kernel_rfl) (by kernel_rfl) (by kernel_rfl) (fun _ _ _ h => h) (Or.inl ⟨by rfl, by intro W hW; clear hW; go_simp⟩) hHeld ?_
              simp only [put_laws]
              refine take_d [14, 15, 20, 21] 13 40 (.int .i64 (k : Nat)) rfl rfl (by kernel_rfl) (by kernel_rfl) (by kernel_rfl) (by kernel_rfl) (fun _ _ _ h => h) (Or.inl ⟨by rfl, by intro W hW; clear hW; go_simp⟩) hHeld ?_
              simp only [put_laws]
              refine take_d [15, 20, 21] 14 41 (.pointer (some (ad.add (k * 4)))) rfl rfl (by kernel_rfl) (by kernel_rfl) (by kernel_rfl) (by kernel_rfl) (fun _ _ _ h => h) (Or.inl ⟨by rfl, by intro W hW; have h1 := HKB.out; have h2 := HKN.out; clear hW; go_simp⟩) hHeld ?_
              simp only [put_laws]
              refine take_d [20, 21] 15 42 (.agg (#[.complex .f64 (cr y.c) (ci y.c), .bool y.c.com, .map (some y.rb), .map (some y.wb)])) rfl rfl (by kernel_rfl) (by kernel_rfl) (by kernel_rfl) (by kernel_rfl) (fun _ _ _ h => h) (Or.inl ⟨by rfl, by intro W hW; have hh := atC hW.gt.rc.row HY.out; obtain ⟨ad2, e2, hh⟩ := hh; have e2 := Option.some.inj e2; subst e2; obtain ⟨z0, z1, z2, z3⟩ := hh; clear hW; go_simp⟩) hHeld ?_
              simp only [put_laws]
              refine take_d [18, 19, 20, 21] 16 43 (.slice (some ad) X.length d) rfl rfl (by kernel_rfl) (by kernel_rfl) (by kernel_rfl) (by kernel_rfl) (fun _ _ _ h => h) (Or.inl ⟨by rfl, by intro W hW; clear hW; go_simp⟩) hHeld ?_
              simp only [put_laws]
              refine take_d [18, 19, 20, 21] 17 44 (.int .i64 (a : Nat)) rfl rfl (by kernel_rfl) (by kernel_rfl) (by kernel_rfl) (by kernel_rfl) (fun _ _ _ h => h) (Or.inl ⟨by rfl, by intro W hW; clear hW; go_simp⟩) hHeld ?_
              simp only [put_laws]
              refine take_d [19, 20, 21] 18 45 (.pointer (some (ad.add (a * 4)))) rfl rfl (by kernel_rfl) (by kernel_rfl) (by kernel_rfl) (by kernel_rfl) (fun _ _ _ h => h) (Or.inl ⟨by rfl, by intro W hW; have h1 := HAB.out; have h2 := HAN.out; clear hW; go_simp⟩) hHeld ?_
              simp only [put_laws]
              refine take_d [20, 21] 19 46 (.agg (#[.complex .f64 (cr z.c) (ci z.c), .bool z.c.com, .map (some z.rb), .map (some z.wb)])) rfl rfl (by kernel_rfl) (by kernel_rfl) (by kernel_rfl) (by kernel_rfl) (fun _ _ _ h => h) (Or.inl ⟨by rfl, by intro W hW; have hh := atC hW.gt.rc.row HZ.out; obtain ⟨ad2, e2, hh⟩ := hh; have e2 := Option.some.inj e2; subst e2; obtain ⟨z0, z1, z2, z3⟩ := hh; clear hW; go_simp⟩) hHeld ?_
              simp only [put_laws]
              refine anyZ_ready (rs := [20]) (by kernel_rfl) (by simp) ?_
              refine AllZ.cons rfl (fun K hK => ?_) AllZ.nil
              go_simp
              refine (overwrites_any y z _ HGY.out HGZ.out (hHeld.gt.rc.mp y HMY.out).2 (hHeld.gt.rc.mp z HMZ.out).2 HFY.out).mono ?_
              rintro e w3 ⟨bo, rfl, hiff, hb⟩
              try go_simp
              have hPrev := hHeld
              have hHeld := hHeld.below hb
              clear hPrev
              refine hK.out _ _ hHeld (fun hHeld => ?_)
              clear hK K
              refine take_d [] 21 48 (.bool bo) rfl rfl (by kernel_rfl) (by kernel_rfl) (by kernel_rfl) (by kernel_rfl) (fun _ _ _ h => h) (Or.inl ⟨by rfl, by intro W hW; clear hW; go_simp⟩) hHeld ?_
              simp only [put_laws]
              refine anyZ_done (by kernel_rfl) ?_ _
              refine NoPanic.normal ?_
              have HU2 := Lib.hid hHeld
              clear hHeld
              cases bo with
              | true =>
                have HI2 := Lib.hid (Ga_more HI.out HCY.out HCZ.out (.inr (hiff.1 rfl)) (by omega) (by omega))
                clear hiff
                go_wp2_with (refine wpList_load_row rfl 36 (.tmp 6) rfl q rfl 36 (matA m) (0, 0) _ HU2.out.gt.bx Try.underlying36 rfl (matInfo m) ?_)
                refine (put_any m (a : Nat) (k : Nat) _ HI.out.ok ⟨by omega, by omega⟩ ⟨by omega, by omega⟩).mono ?_
                rintro r w4 ⟨⟨cc, rfl⟩, hb4⟩
                have HU3 := Lib.hid (HU2.out.below hb4)
                clear hb4
                go_wp2_with (refine wpList_store_row rfl 36 (.tmp 6) (.tmp 54) rfl q (matA (putE m (a : Nat) (k : Nat))) rfl rfl 36 _ HU3.out.gt.bx (matInfo _) (by rw [matA_size, matA_size]) (matA_one _) ?_)
                have HU4 := Lib.hid (HU3.out.gt.put (m' := putE m (a : Nat) (k : Nat)) HR1.out HU3.out.be (by rw [HQE.out]; exact Nat.le_refl _) HQ.out.2)
                generalize World.setRow _ q (matA (putE m (a : Nat) (k : Nat))) = w5 at HU4 ⊢
                go_wp2
                go_roundw
                case rel => exact ⟨a + 1, _, by have := HAB.out; omega, by go_num, HU4.out.1, HU4.out.2, HI2.out⟩
                case measure => simp [intOf]; have := HAB.out; omega
              | false =>
                have HI2 := Lib.hid (Ga_skip HI.out HCY.out HCZ.out (fun h => h.elim (fun h => by have := HBF.out; simp at this; omega) (fun h => by have := hiff.2 h; cases this)))
                clear hiff
                go_wp2
                go_roundw
                case rel => exact ⟨a + 1, _, by have := HAB.out; omega, by go_num, HU2.out.gt, HU2.out.be, HI2.out⟩
                case measure => simp [intOf]; have := HAB.out; omega
          · have hla' : ¬ (a : Int) < (X.length : Int) := by omega
            obtain rfl : a = X.length := by omega
            go_wp2_with (refine wpList_load_row rfl 36 (.tmp 6) rfl q rfl 36 (matA m) (0, 0) _ HU.out.gt.bx Try.underlying36 rfl (matInfo m) ?_)
            refine (beside_any (some ad) d X k y m _ _ HU.out.gt.rc HX.out HY.out HI.out (fun v n h => by have := HOY.out.rd v n h; have := HLL.out; omega)).mono ?_
            rintro r w4 ⟨m2, rfl, his2, hb4⟩
            have HU3 := Lib.hid (HU.out.below hb4)
            have HI3 := Lib.hid (show Is m2 (Gk (cs X) (k + 1)) from his2.congr fun i j _ => by rw [← Gk_more HCY.out, cs_len])
            clear his2 hb4
            go_wp2_with (refine wpList_store_row rfl 36 (.tmp 6) (.tmp 60) rfl q (matA m2) rfl rfl 36 _ HU3.out.gt.bx (matInfo _) (by rw [matA_size, matA_size]) (matA_one _) ?_)
            have HU4 := Lib.hid (HU3.out.gt.put (m' := m2) HR1.out HU3.out.be (by rw [HQE.out]; exact Nat.le_refl _) HQ.out.2)
            generalize World.setRow _ q (matA m2) = w5 at HU4 ⊢
            go_wp2
            go_roundw
            case rel => exact ⟨k + 1, _, by have := HKB.out; omega, by go_num, HU4.out.1, HU4.out.2, HI3.out⟩
            case measure => simp [intOf]; have := HKB.out; omega
      · have hlt' : ¬ (k : Int) < (X.length : Int) := by omega
        obtain rfl : k = X.length := by omega
        have HIE := Lib.hid (show Is m (Ge (crL L)) from HI0.out.congr fun i j _ => by rw [← HE.out, ← Gk_all, cs_len])
        go_wp2_with (first
          | (refine wpList_load_row rfl 36 (.tmp 6) rfl q rfl 36 (matA m) (0, 0) _ HG0.out.bx Try.underlying36 rfl (matInfo m) ?_)
          | (refine wpList_store_row rfl 36 (.tmp 2) (.tmp 62) rfl w.heap.size (matA m) rfl rfl 36 _ HG0.out.re (matInfo m) (by rw [matA_size, matA_size]) (matA_one _) ?_))
        refine bodyPost_ret (results_row_tmp rfl _ _ w.heap.size 36 (matA m) (0, 0) _ _ (.bool true) rfl rfl (setRow_heap _ _ _ _ _ _ HG0.out.re) Try.underlying36 (matInfo _)) rfl ⟨m, rfl, HIE.out, ?_⟩
        exact setRow_below HG0.out.bel (Nat.le_refl _)
end Go.Proofs.Ytaonepbongbhoaa.Hi
