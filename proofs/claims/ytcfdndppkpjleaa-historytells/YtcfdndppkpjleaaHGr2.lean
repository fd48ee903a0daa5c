/-
  Contracts of Put, said at once, and of besideWriters.
-/
import Derived.Test.YtcfdndppkpjleaaHGr1
import Derived.Test.YtcfdndppkpjleaaMatOps
namespace Go.Proofs.Ytcfdndppkpjleaa.Hi
open Go.RowKit
open Tx (i64p)
open Az
theorem put_any (m : Mm.Gr) (a b : Int) (w : World) (hm : Mm.Ok m) (ha : i64p a) (hb : i64p b) : Calls Try.prog 45 #[.agg (matA m), .int .i64 a, .int .i64 b] w fun e w' => (∃ c, e = .returned (.tuple #[.agg (matA (putE m a b)), .bool c])) ∧ Below w.heap.size w w' := by
  unfold putE
  by_cases h1 : 0 ≤ a ∧ a < 32
  · obtain ⟨x, rfl⟩ := Int.eq_ofNat_of_zero_le h1.1
    by_cases h2 : 0 ≤ b ∧ b < 32
    · obtain ⟨y, rfl⟩ := Int.eq_ofNat_of_zero_le h2.1
      by_cases h3 : x = y
      · subst h3
        rw [if_neg (by omega)]
        exact (put_no3 m x w (by omega)).mono fun _ _ h => ⟨⟨_, h.1⟩, h.2⟩
      · rw [if_pos ⟨h1.1, h1.2, h2.1, h2.2, by omega⟩]
        exact (put_yes m x y w hm (by omega) (by omega) h3).mono fun _ _ h => ⟨⟨_, h.1⟩, h.2⟩
    · rw [if_neg (by omega)]
      exact (put_no2 m x b w (by omega) ⟨hb, by omega⟩).mono fun _ _ h => ⟨⟨_, h.1⟩, h.2⟩
  · rw [if_neg (by omega)]
    exact (put_no1 m a b w ⟨ha, by omega⟩).mono fun _ _ h => ⟨⟨_, h.1⟩, h.2⟩
theorem yields_mat {ops : Array Oper} {S : World → Prop} {op : Oper} {a : Act} (hw : Region.wanted op (yielded ops a.tmps) = true) (ty : TypeId) (x : Operand) (ho : op.op = .load ty x)
    (b : Nat) (hx : a.eval x = .pointer (some ⟨b, 0, none⟩)) (t : Nat) (m : Mm.Gr) {n : Nat} {el : TypeId} (hS : ∀ w, S w → MatAt w b m t)
    (hu : Try.prog.underlying ty = some (.array n el)) (hi : (Try.prog.info? ty).map (·.size) = some (matA m).size) : YieldsIf Try.prog ops S op (.agg (matA m)) a :=
  .inl ⟨hw, fun w hw' => by
    unfold execOp
    simp only [ho, hx, Instr.loadAt, Instr.sureAddr, Sem.run_bind, Sem.run_pure, Result.andThen_ok, run_loadVar_row w b t ty (matA m) (0, 0) _ (hS w hw') hu rfl hi]⟩
theorem step_store_mat {w : World} {ops : Array Oper} {op : Oper} {a : Go.Act} {K : Go.Act → World → Prop} {Q : Exit → Go.Act → World → Prop} {E : Prop} (hgd : op.guard = none) (ty : TypeId) (x y : Operand) (ho : op.op = .store ty x y) (hds : op.dst = none)
    (g : Nat) (p q : Mm.Gr) (t : Nat) (hx : a.eval x = .pointer (some ⟨g, 0, none⟩)) (hy : a.eval y = .agg (matA q)) (h : MatAt w g p t) (hi : (Try.prog.info? ty).map (·.size) = some (matA q).size)
    (hK : K a (w.setRow g (matA q))) : if Region.wanted op (yielded ops a.tmps) = true then Oper.wp Try.prog op a w K Q else E := by
  have hw : Region.wanted op (yielded ops a.tmps) = true := by simp [Region.wanted, hgd]
  rw [if_pos hw]
  refine wp_store_row ty x y ho g (matA q) hx hy t _ h hi (by rw [matA_size, matA_size]) (matA_one _) ?_
  rw [hds]; exact hK
/-- both boxes of a matrix, the courses, the map that is gone through. -/
structure GS (w : World) (B : Option Addr) (X : List Co) (b r : Nat) (f : Int → Option Nat) (lf : Int → Bool) (cnt : Nat) (m : Mm.Gr) (W : World) : Prop where
  bx : MatAt W w.heap.size m 50
  re : MatAt W (w.heap.size + 1) zeroM 50
  nr : NR W b r 2000 f lf cnt
  rc : RdC W B X
  bel : Below w.heap.size w W
section
variable {w : World} {B : Option Addr} {X : List Co} {b r : Nat} {f : Int → Option Nat} {lf : Int → Bool} {cnt : Nat} {m : Mm.Gr}
theorem GS.below {W W' : World} (h : GS w B X b r f lf cnt m W) (hb : Below W.heap.size W W') : GS w B X b r f lf cnt m W' :=
  ⟨h.bx.below hb, h.re.below hb, h.nr.below hb, h.rc.below hb, h.bel.trans (hb.mono h.bel.size)⟩
theorem GS.drew {W : World} (h : GS w B X b r f lf cnt m W) : GS w B X b r f lf cnt m W.drew := h.below (Below.refl _ _).drew
theorem NR.row {W : World} {b r n cnt g : Nat} {f : Int → Option Nat} {left : Int → Bool} {cs : Array Value} (h : NR W b r n f left cnt) (h1 : b ≠ g) (h2 : r ≠ g) : NR (W.setRow g cs) b r n f left cnt :=
  h.kept (row := some g) ⟨rfl, rfl, rfl, by simp [World.setRow], fun k hk hne => setRow_other _ _ _ _ (fun e => hne (by rw [e]))⟩ (fun e => h1 (Option.some.inj e)) (fun e => h2 (Option.some.inj e))
/-- the box is stored to. -/
theorem GS.put {W : World} {m' : Mm.Gr} (h : GS w B X b r f lf cnt m W) (h0 : RdC w B X) : GS w B X b r f lf cnt m' (W.setRow w.heap.size (matA m')) := by
  have hn := h.nr.ne h.bx
  have hb : Below w.heap.size w (W.setRow w.heap.size (matA m')) := setRow_below h.bel (Nat.le_refl _)
  exact ⟨matAt_put h.bx, h.re.setRow _ (by omega), h.nr.row hn.1 hn.2, h0.below hb, hb⟩
/-- the step of the range. -/
theorem GS.next {W w' : World} {lf' : Int → Bool} {cnt' : Nat} (h : GS w B X b r f lf cnt m W) (h0 : RdC w B X) (hr : NR w' b r 2000 f lf' cnt') (hg : W.grownBy w' (some r)) (hlt : w.heap.size + 1 < r) : GS w B X b r f lf' cnt' m w' := by
  have hb : Below w.heap.size W w' := (Below.refl _ _).grown hg h.bel.size (fun k hk => by have := Option.some.inj hk; omega)
  exact ⟨(hg.block _ h.bx.lt (fun e => by have := Option.some.inj e; omega)).trans h.bx, (hg.block _ h.re.lt (fun e => by have := Option.some.inj e; omega)).trans h.re, hr, h0.below (h.bel.trans hb), h.bel.trans hb⟩
end
/-- the edges of those reads that have come. -/
def Gb (l : List Cr) (b : Nat) (f : Int → Option Nat) (lf : Int → Bool) (i j : Nat) : Prop := ∃ x n, f x = some n ∧ lf x = false ∧ Ed l b x n i j
/-- of one read: its writer, and of the first k those that wrote over it. -/
def Gi (l : List Cr) (b : Nat) (x : Int) (n k : Nat) (i j : Nat) : Prop := (j = b ∧ (i : Int) = src l x n ∧ i ≠ b) ∨ (i = b ∧ j ≠ b ∧ j < k ∧ ∃ c, l[j]? = some c ∧ left c x = true ∧ n < c.e)
theorem Gi.all {l : List Cr} {b : Nat} {x : Int} {n k i j : Nat} (h : l.length ≤ k) : Gi l b x n k i j ↔ Ed l b x n i j := by
  unfold Gi Ed
  constructor
  · rintro (h | ⟨h1, h2, _, h4⟩)
    · exact .inl h
    · exact .inr ⟨h1, h2, h4⟩
  · rintro (h | ⟨h1, h2, c, hc, h4⟩)
    · exact .inl h
    · exact .inr ⟨h1, h2, by have := (List.getElem?_eq_some_iff.1 hc).1; omega, c, hc, h4⟩
theorem Gb.next {l : List Cr} {b : Nat} {f : Int → Option Nat} {lf : Int → Bool} {x : Int} {n i j : Nat} (hf : f x = some n) (hl : lf x = true) : Gb l b f (fun z => lf z && !decide (z = x)) i j ↔ Gb l b f lf i j ∨ Ed l b x n i j := by
  unfold Gb
  constructor
  · rintro ⟨y, k, h1, h2, h3⟩
    by_cases e : y = x
    · subst e
      rw [hf] at h1
      obtain rfl := Option.some.inj h1
      exact .inr h3
    · exact .inl ⟨y, k, h1, by simpa [e] using h2, h3⟩
  · rintro (⟨y, k, h1, h2, h3⟩ | h)
    · exact ⟨y, k, h1, by simp [h2], h3⟩
    · exact ⟨x, n, hf, by simp, h⟩
theorem Gb.last {l : List Cr} {b : Nat} {f : Int → Option Nat} {lf : Int → Bool} {i j : Nat} (h : ∀ x, lf x = false) : Gb l b f lf i j ↔ ∃ x n, f x = some n ∧ Ed l b x n i j :=
  ⟨fun ⟨x, n, h1, _, h3⟩ => ⟨x, n, h1, h3⟩, fun ⟨x, n, h1, h3⟩ => ⟨x, n, h1, h x, h3⟩⟩
theorem src_lt (l : List Cr) (x : Int) (n : Nat) : -1 ≤ src l x n ∧ src l x n < (l.length : Int) ∨ src l x n = -1 := by
  rcases srcTo_spec l x n l.length (Nat.le_refl _) with ⟨h, _⟩ | ⟨a, c, h, h1⟩
  · exact .inr h
  · left; unfold src; rw [h]; have := h1.lt; omega
def BeRel (w : World) (B : Option Addr) (X : List Co) (y : Co) (bb r : Nat) (G : Nat → Nat → Prop) (wr : World) : Prop :=
  ∃ lf cnt m, GS w B X y.rb r y.c.rd lf cnt m wr ∧ (∀ v, lf v = true → (y.c.rd v).isSome = true) ∧ Is m (fun i j => G i j ∨ Gb (cs X) bb y.c.rd lf i j)
def BiRel (w : World) (B : Option Addr) (X : List Co) (y : Co) (bb r : Nat) (G : Nat → Nat → Prop) (lf : Int → Bool) (cnt : Nat) (x : Int) (n : Nat) (i : Value) (wr : World) : Prop :=
  ∃ k m, k ≤ X.length ∧ i = .int .i64 (k : Nat) ∧ GS w B X y.rb r y.c.rd lf cnt m wr ∧ Is m (fun i j => G i j ∨ Gi (cs X) bb x n k i j)
theorem Gi_skip {l : List Cr} {b : Nat} {x : Int} {n k : Nat} {m : Mm.Gr} {G : Nat → Nat → Prop} {c : Cr} (h : Is m (fun i j => G i j ∨ Gi l b x n k i j)) (hc : l[k]? = some c) (hno : ¬ (left c x = true ∧ n < c.e)) : Is m (fun i j => G i j ∨ Gi l b x n (k + 1) i j) := by
  refine h.congr fun i j _ => or_congr_right ?_
  unfold Gi
  refine or_congr_right ⟨?_, ?_⟩
  · rintro ⟨h1, h2, h3, h4⟩; exact ⟨h1, h2, by omega, h4⟩
  · rintro ⟨h1, h2, h3, d, hd, h4⟩
    refine ⟨h1, h2, ?_, d, hd, h4⟩
    rcases Nat.lt_or_ge j k with hj | hj
    · exact hj
    · obtain rfl : j = k := by omega
      rw [hc] at hd
      obtain rfl := Option.some.inj hd
      exact absurd h4 hno
theorem Gi_more {l : List Cr} {b : Nat} {x : Int} {n k : Nat} {m : Mm.Gr} {G : Nat → Nat → Prop} {c : Cr} (h : Is m (fun i j => G i j ∨ Gi l b x n k i j)) (hc : l[k]? = some c) (hyes : left c x = true ∧ n < c.e) (hk : k < 32) (hb : (b : Int) < 32) : Is (putE m (b : Nat) (k : Nat)) (fun i j => G i j ∨ Gi l b x n (k + 1) i j) := by
  refine (h.putE (b : Nat) (k : Nat) hb ⟨by omega, by omega⟩).congr fun i j _ => ?_
  rw [or_assoc]
  refine or_congr_right ?_
  unfold Gi
  constructor
  · rintro ((h1 | ⟨h1, h2, h3, h4⟩) | ⟨h1, h2, h3⟩)
    · exact .inl h1
    · exact .inr ⟨h1, h2, by omega, h4⟩
    · obtain rfl : i = b := by omega
      obtain rfl : j = k := by omega
      exact .inr ⟨rfl, by omega, Nat.lt_succ_self _, c, hc, hyes⟩
  · rintro (h1 | ⟨h1, h2, h3, d, hd, h4⟩)
    · exact .inl (.inl h1)
    · rcases Nat.lt_or_ge j k with hj | hj
      · exact .inl (.inr ⟨h1, h2, hj, d, hd, h4⟩)
      · obtain rfl : j = k := by omega
        exact .inr ⟨by omega, rfl, by omega⟩
/-- a matrix that the call hands back. -/
def BePost (G : Nat → Nat → Prop) (w : World) (r : Ending) (w' : World) : Prop := ∃ m, r = .returned (.agg (matA m)) ∧ Is m G ∧ Below w.heap.size w w'
set_option maxRecDepth 100000 in
set_option maxHeartbeats 8000000 in
theorem beside_any (B : Option Addr) (d : Nat) (X : List Co) (bb : Nat) (y : Co) (m0 : Mm.Gr) (G : Nat → Nat → Prop) (w : World) (h : RdC w B X) (hl : X.length ≤ 32) (hy : X[bb]? = some y) (his : Is m0 G) (hf : ∀ v k, y.c.rd v = some k → 0 ≤ v ∧ v < 64 ∧ k ≤ 2000) :
    Calls Try.prog 46 #[.agg (matA m0), .slice B X.length d, .int .i64 (bb : Nat)] w (BePost (fun i j => G i j ∨ ∃ x n, y.c.rd x = some n ∧ Ed (cs X) bb x n i j) w) := by
  have H := Lib.hid h
  have HXL := Lib.hid (show X.length ≤ 100 from by omega)
  have hbl := (List.getElem?_eq_some_iff.1 hy).1
  have hXN : (X.length : Int) ≤ 32 := by omega
  have hbN : (bb : Int) < (X.length : Int) := by omega
  have HF := Lib.hid hf
  have HIS0 := Lib.hid his
  have HBI := Lib.hid (show i64p (bb : Nat) from ⟨by omega, by omega⟩)
  have HB1 := Lib.hid (show MatAt ((w.alloc (.cells (matA m0) 50)).alloc (.cells #[Value.int .u64 0, Value.int .u64 0, Value.int .u64 0, Value.int .u64 0, Value.int .u64 0, Value.int .u64 0, Value.int .u64 0, Value.int .u64 0, Value.int .u64 0, Value.int .u64 0, Value.int .u64 0, Value.int .u64 0, Value.int .u64 0, Value.int .u64 0, Value.int .u64 0, Value.int .u64 0, Value.int .u64 0, Value.int .u64 0, Value.int .u64 0, Value.int .u64 0, Value.int .u64 0, Value.int .u64 0, Value.int .u64 0, Value.int .u64 0, Value.int .u64 0, Value.int .u64 0, Value.int .u64 0, Value.int .u64 0, Value.int .u64 0, Value.int .u64 0, Value.int .u64 0, Value.int .u64 0] 50)) w.heap.size m0 50 from heap_alloc2_old _ _ _)
  have HB2 := Lib.hid (show MatAt ((w.alloc (.cells (matA m0) 50)).alloc (.cells #[Value.int .u64 0, Value.int .u64 0, Value.int .u64 0, Value.int .u64 0, Value.int .u64 0, Value.int .u64 0, Value.int .u64 0, Value.int .u64 0, Value.int .u64 0, Value.int .u64 0, Value.int .u64 0, Value.int .u64 0, Value.int .u64 0, Value.int .u64 0, Value.int .u64 0, Value.int .u64 0, Value.int .u64 0, Value.int .u64 0, Value.int .u64 0, Value.int .u64 0, Value.int .u64 0, Value.int .u64 0, Value.int .u64 0, Value.int .u64 0, Value.int .u64 0, Value.int .u64 0, Value.int .u64 0, Value.int .u64 0, Value.int .u64 0, Value.int .u64 0, Value.int .u64 0, Value.int .u64 0] 50)) (w.heap.size + 1) zeroM 50 from by
    have := zero_lit (w.alloc (.cells (matA m0) 50)) 50
    rw [Rn.size_new] at this
    exact this)
  have HB3 := Lib.hid (show Below w.heap.size w ((w.alloc (.cells (matA m0) 50)).alloc (.cells #[Value.int .u64 0, Value.int .u64 0, Value.int .u64 0, Value.int .u64 0, Value.int .u64 0, Value.int .u64 0, Value.int .u64 0, Value.int .u64 0, Value.int .u64 0, Value.int .u64 0, Value.int .u64 0, Value.int .u64 0, Value.int .u64 0, Value.int .u64 0, Value.int .u64 0, Value.int .u64 0, Value.int .u64 0, Value.int .u64 0, Value.int .u64 0, Value.int .u64 0, Value.int .u64 0, Value.int .u64 0, Value.int .u64 0, Value.int .u64 0, Value.int .u64 0, Value.int .u64 0, Value.int .u64 0, Value.int .u64 0, Value.int .u64 0, Value.int .u64 0, Value.int .u64 0, Value.int .u64 0] 50)) from (Rn.below_new _ _).alloc (by simp) _)
  have HR0 := Lib.hid (H.out.below HB3.out)
  have hsz : ((w.alloc (.cells (matA m0) 50)).alloc (.cells #[Value.int .u64 0, Value.int .u64 0, Value.int .u64 0, Value.int .u64 0, Value.int .u64 0, Value.int .u64 0, Value.int .u64 0, Value.int .u64 0, Value.int .u64 0, Value.int .u64 0, Value.int .u64 0, Value.int .u64 0, Value.int .u64 0, Value.int .u64 0, Value.int .u64 0, Value.int .u64 0, Value.int .u64 0, Value.int .u64 0, Value.int .u64 0, Value.int .u64 0, Value.int .u64 0, Value.int .u64 0, Value.int .u64 0, Value.int .u64 0, Value.int .u64 0, Value.int .u64 0, Value.int .u64 0, Value.int .u64 0, Value.int .u64 0, Value.int .u64 0, Value.int .u64 0, Value.int .u64 0] 50)).heap.size = w.heap.size + 2 := by simp
  obtain ⟨ad, rfl, c0, c1, c2, c3⟩ := atC HR0.out.row hy
  obtain ⟨sz, hm⟩ := (HR0.out.mp y (List.mem_of_getElem? hy)).1
  have HM := Lib.hid hm
  clear h his hf hy hm
  go_enter Try.func46, Try.ntmps46
  go_wp2_with (at_range; refine wpList_rangeM rfl _ rfl y.rb 2000 sz y.c.rd rfl HM.out ?_; intro w3 cnt0 hr3 hb3 hs3)
  generalize (w.alloc (.cells (matA m0) 50)).alloc (.cells #[Value.int .u64 0, Value.int .u64 0, Value.int .u64 0, Value.int .u64 0, Value.int .u64 0, Value.int .u64 0, Value.int .u64 0, Value.int .u64 0, Value.int .u64 0, Value.int .u64 0, Value.int .u64 0, Value.int .u64 0, Value.int .u64 0, Value.int .u64 0, Value.int .u64 0, Value.int .u64 0, Value.int .u64 0, Value.int .u64 0, Value.int .u64 0, Value.int .u64 0, Value.int .u64 0, Value.int .u64 0, Value.int .u64 0, Value.int .u64 0, Value.int .u64 0, Value.int .u64 0, Value.int .u64 0, Value.int .u64 0, Value.int .u64 0, Value.int .u64 0, Value.int .u64 0, Value.int .u64 0] 50) = W0 at *
  have HS3 := Lib.hid (show GS w (some ad) X y.rb W0.heap.size y.c.rd (fun x => (y.c.rd x).isSome) cnt0 m0 w3 from ⟨HB1.out.below hb3, HB2.out.below hb3, hr3, HR0.out.below hb3, HB3.out.trans (hb3.mono HB3.out.size)⟩)
  have HI3 := Lib.hid (show Is m0 (fun i j => G i j ∨ Gb (cs X) bb y.c.rd (fun x => (y.c.rd x).isSome) i j) from HIS0.out.congr fun i j _ => ⟨fun h => .inl h, fun h => h.elim id (fun ⟨x, n, h1, h2, _⟩ => by dsimp only at h2; rw [h1] at h2; cases h2)⟩)
  have HRL := Lib.hid hsz
  clear hr3 hb3 hs3 c0 c1 c2 c3 hsz
  go_frame
  go_loopw [7] (fun _ wr => BeRel w (some ad) X y bb W0.heap.size G wr) (fun _ wr => wr.rangeLeft y.rb W0.heap.size)
  case atStart => exact ⟨_, _, _, HS3.out, fun v h => h, HI3.out⟩
  case round =>
    obtain ⟨lf, cnt, m, hgs, hlf, his⟩ := hrel
    have HGS := Lib.hid hgs
    have HLF := Lib.hid hlf
    have HIS := Lib.hid his
    clear hgs hlf his
    go_wp2_with (at_next; refine wpList_nextM rfl _ rfl y.rb W0.heap.size 2000 y.c.rd lf cnt rfl HGS.out.nr HLF.out ?_ ?_)
    · intro hl0
      have HIE := Lib.hid (show Is m (fun i j => G i j ∨ ∃ x n, y.c.rd x = some n ∧ Ed (cs X) bb x n i j) from HIS.out.congr fun i j _ => or_congr_right (Gb.last hl0))
      clear hl0
      go_wp2_with (first
        | (refine wpList_load_row rfl 50 (.tmp 3) rfl w.heap.size rfl 50 (matA m) (0, 0) _ HGS.out.bx Try.underlying50 rfl (matInfo m) ?_)
        | (refine wpList_store_row rfl 50 (.tmp 6) (.tmp 60) rfl (w.heap.size + 1) (matA m) rfl rfl 50 _ HGS.out.re (matInfo m) (by rw [matA_size, matA_size]) (matA_one _) ?_))
      refine bodyPost_ret (results_cell_row rfl _ _ (w.heap.size + 1) 50 (matA m) (0, 0) _ rfl (setRow_heap _ _ _ _ _ _ HGS.out.re) Try.underlying50 rfl (matInfo _)) rfl ⟨m, rfl, HIE.out, ?_⟩
      exact setRow_below HGS.out.bel (by omega)
    · intro x n w4 cnt1 hlx hfx hr4 hlt4 hg4 hs4 hen
      have hv := HF.out x n hfx
      have HV := Lib.hid (show i64p x from ⟨by omega, by omega⟩)
      have HKN := Lib.hid (show n ≤ 2000 from hv.2.2)
      have HSR := Lib.hid (show i64p (src (cs X) x n) from by
        have := src_lt (cs X) x n
        rw [cs_len] at this
        constructor <;> omega)
      have HS4 := Lib.hid (HGS.out.next H.out hr4 hg4 (by have := HRL.out; omega))
      have HI7 := Lib.hid (show Is (putE m (src (cs X) x n) (bb : Nat)) (fun i j => (G i j ∨ Gb (cs X) bb y.c.rd lf i j) ∨ Gi (cs X) bb x n 0 i j) from
        (HIS.out.putE (src (cs X) x n) (bb : Nat) (by have := src_lt (cs X) x n; rw [cs_len] at this; omega) ⟨by omega, by omega⟩).congr fun i j _ => or_congr_right (by
          unfold Gi
          constructor
          · rintro ⟨h1, h2, h3⟩; exact .inl ⟨by omega, h1, by omega⟩
          · rintro (⟨h1, h2, h3⟩ | ⟨_, _, h3, _⟩)
            · exact ⟨h2, by omega, by omega⟩
            · omega))
      have HFX := Lib.hid hfx
      have HLX := Lib.hid hlx
      have HLTT := Lib.hid hlt4
      have HLF4 := Lib.hid (show ∀ z, (lf z && !decide (z = x)) = true → (y.c.rd z).isSome = true from fun z hz => HLF.out z (by simp at hz; exact hz.1))
      clear hlx hfx hr4 hlt4 hg4 hs4 hv
      go_wp2
      refine wp_region_noPanic ?_
      refine region_z 11 (fun W => GS w (some ad) X y.rb W0.heap.size y.c.rd (fun z => lf z && !decide (z = x)) cnt1 m W) 10 9 rfl (by kernel_rfl) (by exact HS4.out.drew) (fun hHeld => ?_)
      refine take_d [6, 7, 8, 9, 10] 0 22 (.agg (matA m)) rfl rfl (by kernel_rfl) (by kernel_rfl) (by kernel_rfl) (by kernel_rfl) (fun _ _ _ h => h) (yields_mat rfl 50 (.tmp 3) rfl w.heap.size rfl 50 m (fun W hW => hW.bx) Try.underlying50 (matInfo m)) hHeld ?_
      simp only [put_laws]
      refine take_d [4, 6, 7, 8, 9, 10] 1 23 (.slice (some ad) X.length d) rfl rfl (by kernel_rfl) (by kernel_rfl) (by kernel_rfl) (by kernel_rfl) (fun _ _ _ h => h) (Or.inl ⟨by rfl, by intro W hW; clear hW; go_simp⟩) hHeld ?_
      simp only [put_laws]
      refine take_d [4, 6, 7, 8, 9, 10] 2 24 (.int .i64 x) rfl rfl (by kernel_rfl) (by kernel_rfl) (by kernel_rfl) (by kernel_rfl) (fun _ _ _ h => h) (Or.inl ⟨by rfl, by intro W hW; clear hW; go_simp⟩) hHeld ?_
      simp only [put_laws]
      refine take_d [4, 6, 7, 8, 9, 10] 3 25 (.int .i64 (n : Nat)) rfl rfl (by kernel_rfl) (by kernel_rfl) (by kernel_rfl) (by kernel_rfl) (fun _ _ _ h => h) (Or.inl ⟨by rfl, by intro W hW; clear hW; go_simp⟩) hHeld ?_
      simp only [put_laws]
      refine take_d [6, 7, 8, 9, 10] 5 27 (.int .i64 (bb : Nat)) rfl rfl (by kernel_rfl) (by kernel_rfl) (by kernel_rfl) (by kernel_rfl) (fun _ _ _ h => h) (Or.inl ⟨by rfl, by intro W hW; clear hW; go_simp⟩) hHeld ?_
      simp only [put_laws]
      refine anyZ_ready (rs := [4]) (by kernel_rfl) (by simp) ?_
      refine AllZ.cons rfl (fun K hK => ?_) AllZ.nil
      go_simp
      refine (source_any (some ad) d X x n _ hHeld.rc HXL.out HV.out HKN.out).mono ?_
      rintro e w5 ⟨rfl, hb⟩
      try go_simp
      have hPrev := hHeld
      have hHeld := hHeld.below hb
      clear hPrev
      refine hK.out _ _ hHeld (fun hHeld => ?_)
      clear hK K
      refine anyZ_ready (rs := [6]) (by kernel_rfl) (by simp) ?_
      refine AllZ.cons rfl (fun K hK => ?_) AllZ.nil
      go_simp
      refine (put_any m (src (cs X) x n) (bb : Nat) _ HIS.out.ok HSR.out HBI.out).mono ?_
      rintro e w6 ⟨⟨cc, rfl⟩, hb⟩
      try go_simp
      have hPrev := hHeld
      have hHeld := hHeld.below hb
      clear hPrev
      refine hK.out _ _ hHeld (fun hHeld => ?_)
      clear hK K
      refine take_d [8, 9, 10] 7 21 (.tuple #[.agg (matA (putE m (src (cs X) x n) (bb : Nat))), .bool cc]) rfl rfl (by kernel_rfl) (by kernel_rfl) (by kernel_rfl) (by kernel_rfl) (fun _ _ _ h => h) (Or.inl ⟨by rfl, by intro W hW; clear hW; go_simp⟩) hHeld ?_
      simp only [put_laws]
      refine take_d [10] 8 29 (.agg (matA (putE m (src (cs X) x n) (bb : Nat)))) rfl rfl (by kernel_rfl) (by kernel_rfl) (by kernel_rfl) (by kernel_rfl) (fun _ _ _ h => h) (Or.inl ⟨by rfl, by intro W hW; clear hW; go_simp⟩) hHeld ?_
      simp only [put_laws]
      refine take_e 30 (.bool cc) rfl rfl (by kernel_rfl) (by kernel_rfl) (by kernel_rfl) (fun _ _ _ h => h) (Or.inl ⟨by rfl, by intro W hW; clear hW; go_simp⟩) ?_
      simp only [put_laws]
      refine anyZ_ready (rs := [10]) (by kernel_rfl) (by simp) ?_
      refine AllZ.last rfl rfl (fun K hK => ?_)
      refine step_store_mat rfl 50 (.tmp 3) (.tmp 29) rfl rfl w.heap.size m (putE m (src (cs X) x n) (bb : Nat)) 50 rfl rfl hHeld.bx (matInfo _) ?_
      have HS7 := Lib.hid (hHeld.put (m' := putE m (src (cs X) x n) (bb : Nat)) H.out)
      refine hK.out _ _ ?_
      clear hK K hHeld
      refine anyZ_done (by kernel_rfl) ?_ _
      refine NoPanic.normal ?_
      generalize World.setRow _ w.heap.size (matA (putE m (src (cs X) x n) (bb : Nat))) = w7 at HS7 ⊢
      go_wp2
      go_loopw [33] (BiRel w (some ad) X y bb W0.heap.size (fun i j => G i j ∨ Gb (cs X) bb y.c.rd lf i j) (fun z => lf z && !decide (z = x)) cnt1 x n) (fun i _ => X.length - (intOf i).toNat)
      case atStart => exact ⟨0, _, Nat.zero_le _, rfl, HS7.out, HI7.out⟩
      case round =>
        obtain ⟨k, m2, hk, rfl, hgs, his⟩ := hrel
        have HG2 := Lib.hid hgs
        have HI2 := Lib.hid his
        clear hgs his
        by_cases hlt : k < X.length
        · have hlt' : (k : Int) < (X.length : Int) := by omega
          have hz : X[k]? = some X[k] := List.getElem?_eq_getElem hlt
          generalize hZZ : X[k] = z at hz
          have HZC := Lib.hid (cs_at hz)
          have HKX := Lib.hid hlt
          have HMZ := Lib.hid (List.mem_of_getElem? hz)
          have HGZ := Lib.hid (HG2.out.rc.gc z HMZ.out)
          obtain ⟨ad', e', c0, c1, c2, c3⟩ := atC HG2.out.rc.row hz
          obtain rfl := Option.some.inj e'
          clear hz hZZ e'
          cases hlf2 : left z.c x with
          | false =>
            have HLZ := Lib.hid hlf2
            have HI3 := Lib.hid (Gi_skip HI2.out HZC.out (fun h => by rw [HLZ.out] at h; cases h.1))
            clear hlf2
            go_wp2_with fail
            refine (left_val z x _ HV.out (HG2.out.rc.mp z HMZ.out).2 HLZ.out).mono ?_
            rintro r w8 ⟨rfl, hb8⟩
            have HG3 := Lib.hid (HG2.out.below hb8)
            clear hb8 c0 c1 c2 c3
            go_wp2
            go_roundw
            case rel => exact ⟨k + 1, _, by have := HKX.out; omega, by go_num, HG3.out, HI3.out⟩
            case measure => simp [intOf]; have := HKX.out; omega
          | true =>
            have HLZ := Lib.hid hlf2
            clear hlf2
            by_cases hen : n < z.c.e
            · have hen' : (z.c.e : Int) > (n : Int) := by omega
              have HI3 := Lib.hid (Gi_more HI2.out HZC.out ⟨HLZ.out, hen⟩ (by have := HKX.out; omega) (by omega))
              go_wp2_with fail
              refine (left_val z x _ HV.out (HG2.out.rc.mp z HMZ.out).2 HLZ.out).mono ?_
              rintro r w8 ⟨rfl, hb8⟩
              have HG3 := Lib.hid (HG2.out.below hb8)
              have c0 := (hb8.cell (Rn.cell_lt c0)).trans c0
              clear hb8 c1 c2 c3
              go_wp2_with fail
              refine (end_c HGZ.out _).mono ?_
              rintro r w9 ⟨rfl, rfl⟩
              clear c0
              go_wp2_with (refine wpList_load_row rfl 50 (.tmp 3) rfl w.heap.size rfl 50 (matA m2) (0, 0) _ HG3.out.bx Try.underlying50 rfl (matInfo m2) ?_)
              refine (put_any m2 (bb : Nat) (k : Nat) _ HI2.out.ok HBI.out ⟨by omega, by omega⟩).mono ?_
              rintro r w9 ⟨⟨cc, rfl⟩, hb9⟩
              have HG4 := Lib.hid (HG3.out.below hb9)
              clear hb9
              go_wp2_with (refine wpList_store_row rfl 50 (.tmp 3) (.tmp 57) rfl w.heap.size (matA (putE m2 (bb : Nat) (k : Nat))) rfl rfl 50 _ HG4.out.bx (matInfo _) (by rw [matA_size, matA_size]) (matA_one _) ?_)
              have HG5 := Lib.hid (HG4.out.put (m' := putE m2 (bb : Nat) (k : Nat)) H.out)
              generalize World.setRow _ w.heap.size (matA (putE m2 (bb : Nat) (k : Nat))) = w10 at HG5 ⊢
              go_wp2
              go_roundw
              case rel => exact ⟨k + 1, _, by have := HKX.out; omega, by go_num, HG5.out, HI3.out⟩
              case measure => simp [intOf]; have := HKX.out; omega
            · have hen' : ¬ (z.c.e : Int) > (n : Int) := by omega
              have HI3 := Lib.hid (Gi_skip HI2.out HZC.out (fun h => hen h.2))
              go_wp2_with fail
              refine (left_val z x _ HV.out (HG2.out.rc.mp z HMZ.out).2 HLZ.out).mono ?_
              rintro r w8 ⟨rfl, hb8⟩
              have HG3 := Lib.hid (HG2.out.below hb8)
              have c0 := (hb8.cell (Rn.cell_lt c0)).trans c0
              clear hb8 c1 c2 c3
              go_wp2_with fail
              refine (end_c HGZ.out _).mono ?_
              rintro r w9 ⟨rfl, rfl⟩
              clear c0
              go_wp2
              go_roundw
              case rel => exact ⟨k + 1, _, by have := HKX.out; omega, by go_num, HG3.out, HI3.out⟩
              case measure => simp [intOf]; have := HKX.out; omega
        · have hlt' : ¬ (k : Int) < (X.length : Int) := by omega
          obtain rfl : k = X.length := by omega
          have HI3 := Lib.hid (show Is m2 (fun i j => G i j ∨ Gb (cs X) bb y.c.rd (fun z => lf z && !decide (z = x)) i j) from HI2.out.congr fun i j _ => by
            rw [Gb.next HFX.out HLX.out, Gi.all (by rw [cs_len]; exact Nat.le_refl _), or_assoc])
          go_wp2
          go_roundw
          case rel => exact ⟨_, _, _, HG2.out, HLF4.out, HI3.out⟩
          case measure =>
            rw [HG2.out.nr.left_eq, HGS.out.nr.left_eq]; exact HLTT.out
end Go.Proofs.Ytcfdndppkpjleaa.Hi
