/-
  The walk of TxnParts.
-/
import Derived.Test.YtgnajfijecmecaaTxnPMath
namespace Go.Proofs.Ytgnajfijecmecaa.Tx
open Go.RowKit
theorem VarsAt.grown {X Y : World} {A : Option Addr} {L : List Sp} {r : Nat} {o : Obj} (h : VarsAt X A L) (hg : X.grownBy Y (some r)) (hr : X.heap[r]? = some o) (ho : o.isCells = false) : VarsAt Y A L :=
  ⟨fun hl => by
    obtain ⟨ad, e, hc⟩ := h.cell hl
    exact ⟨ad, e, fun j u hu => cell_kept (hc j u hu) hg (fun q e => by cases e; exact ⟨o, hr, ho⟩)⟩, h.ok⟩
theorem SlAt.grown {X Y : World} {A : Option Addr} {c : Nat} {L : List Sp} {r : Nat} {o : Obj} (h : SlAt X A c L) (hg : X.grownBy Y (some r)) (hr : X.heap[r]? = some o) (ho : o.isCells = false) : SlAt Y A c L := ⟨h.at_.grown hg hr ho, h.le, h.max⟩
theorem MapV.obj {W : World} {b n sz : Nat} {z : Value} {f : Int → Option Value} (h : MapV W b n sz z f) : ∃ o, W.heap[b]? = some o ∧ o.isCells = false := by
  obtain ⟨D, ⟨es, clock, hh, _⟩, _⟩ := h
  exact ⟨_, hh, rfl⟩
theorem MapV.len {W : World} {b n sz : Nat} {z : Value} {f : Int → Option Value} (h : MapV W b n sz z f) {t e : TypeId} (ht : Try.prog.underlying t = some (.map 3 e)) (ty : TypeId) : (Builtin.len_ #[t] ty #[.map (some b)]).run Try.prog W = .ok (.int .i64 (sz : Nat)) W := by
  obtain ⟨D, ho, _, hs, _⟩ := h
  rw [ho.len ht ty, hs]
def zeroV : Value := .agg #[.int .i64 0, .int .i64 0]
def valOf (s : Sp) : Value := .agg #[.int .i64 s.k, .int .i64 s.n]
theorem zero_val (w : World) : (zeroValue 34).run Try.prog w = .ok zeroV w := by
  have h : (Try.prog.info? 34).map (fun i => (i.zero, i.size)) = some (some zeroV, 2) := by kernel_rfl
  exact (zero_of_info h).1 w
/-- a map of values, as many as there are. -/
def MapP (W : World) (b n : Nat) (f : Int → Option Sp) : Prop := MapV W b n (cnt f) zeroV (fun z => (f z).map valOf)
theorem mapP_made (W : World) : MapP (W.alloc (.map #[] 0)) W.heap.size 0 (fun _ => none) := by
  have e : cnt (fun _ => none) = 0 := by decide
  unfold MapP
  rw [e]
  exact mapV_made W zeroV
theorem MapP.look {W : World} {b n : Nat} {f : Int → Option Sp} (h : MapP W b n f) {x : Int} (hx : i64p x) {s : Sp} (hs : f x = some s) :
    (Instr.lookup 46 (.map (some b)) (.int .i64 x) true).run Try.prog W = .ok (.tuple #[.agg #[.int .i64 s.k, .int .i64 s.n], .bool true]) W := by
  rw [MapV.look h Try.underlying46 (zero_val W) hx, hs]
  rfl
def grew (o : Option Value) (sz : Nat) : Nat := if o.isSome then sz else sz + 1
theorem wpList_putP {w : World} {ops : Array Oper} {rest : List Oper} {o : Oper} {a : Act} {Q : Exit → Act → World → Prop} (hg : o.guard = none) (m x v : Operand) (t e : TypeId) (hop : o.op = Op.mapUpdate t m x v) (ht : Try.prog.underlying t = some (.map 3 e))
    (b n sz : Nat) (z : Value) (f : Int → Option Value) (hm : a.eval m = .map (some b)) (h : MapV w b n sz z f) (hn : n < 4096) (y : Int) (u : Value) (hx : a.eval x = .int .i64 y) (hv : a.eval v = u) (hy : i64p y)
    (hK : ∀ w', Hid (MapV w' b (n + 1) (grew (f y) sz) z (fun t => if t = y then some u else f t)) → w.grownBy w' (some b) → wpList Try.prog ops Q rest (a.put o.dst undef) w') : wpList Try.prog ops Q (o :: rest) a w :=
  wpList_putM hg m x v t e hop ht b n sz z f hm h hn y u hx hv hy fun w' h1 h2 => hK w' (Lib.hid h1) h2
/-- what the loops keep. -/
structure PartSt (X Y Z : Option Addr) (dx dy dz : Nat) (L M : List Sp) (mb pb n : Nat) (f : Int → Option Sp) (w W : World) : Prop where
  x : SlAt W X dx L
  y : SlAt W Y dy M
  all : SlAt W Z dz (L ++ M)
  map : MapP W mb n f
  pair : Blk W pb #[.slice X L.length dx, .slice Y M.length dy] 29
  own : w.heap.size ≤ mb
  bel : Below w.heap.size w W
theorem PartSt.below {X Y Z : Option Addr} {dx dy dz : Nat} {L M : List Sp} {mb pb n : Nat} {f : Int → Option Sp} {w W W' : World} (h : PartSt X Y Z dx dy dz L M mb pb n f w W) (hb : Below W.heap.size W W') : PartSt X Y Z dx dy dz L M mb pb n f w W' :=
  ⟨h.x.below hb, h.y.below hb, h.all.below hb, MapV.keep h.map hb (MapV.lt h.map), h.pair.below hb, h.own, h.bel.trans (hb.mono h.bel.size)⟩
theorem PartSt.alloc {X Y Z : Option Addr} {dx dy dz : Nat} {L M : List Sp} {mb pb n : Nat} {f : Int → Option Sp} {w W : World} (h : PartSt X Y Z dx dy dz L M mb pb n f w W) (o : Obj) : PartSt X Y Z dx dy dz L M mb pb n f w (W.alloc o) := h.below (below_new W o)
theorem PartSt.put {X Y Z : Option Addr} {dx dy dz : Nat} {L M : List Sp} {mb pb n : Nat} {f : Int → Option Sp} {w W W' : World} (h : PartSt X Y Z dx dy dz L M mb pb n f w W) {s : Sp} (h0 : 0 ≤ s.x) (h1 : s.x < 64)
    (hm : MapV W' mb (n + 1) (grew ((f s.x).map valOf) (cnt f)) zeroV (fun t => if t = s.x then some (valOf s) else (f t).map valOf)) (hg : W.grownBy W' (some mb)) : PartSt X Y Z dx dy dz L M mb pb (n + 1) (upd f s) w W' := by
  obtain ⟨o, ho, hc⟩ := MapV.obj h.map
  have hne : pb ≠ mb := fun e => by rw [← e, show W.heap[pb]? = _ from h.pair] at ho; cases ho; cases hc
  refine ⟨h.x.grown hg ho hc, h.y.grown hg ho hc, h.all.grown hg ho hc, ?_, (hg.block _ h.pair.lt (by simpa using hne)).trans h.pair, h.own, h.bel.grown hg h.bel.size (fun k e => by cases e; exact h.own)⟩
  unfold MapP
  rw [cnt_upd f s h0 h1]
  unfold grew at hm
  rw [Option.isSome_map] at hm
  exact hm.congr fun x => by unfold upd; by_cases e : x = s.x <;> simp [e]
def PutRel (X Y Z : Option Addr) (dx dy dz : Nat) (L M : List Sp) (mb pb n0 : Nat) (f : Int → Option Sp) (T : Option Addr) (d : Nat) (R : List Sp) (w : World) (i : Value) (wr : World) : Prop :=
  ∃ k : Nat, k ≤ R.length ∧ i = .int .i64 k ∧ PartSt X Y Z dx dy dz L M mb pb (n0 + k) (putAll f (R.take k)) w wr ∧ SlAt wr T d R
/-- what is in the map behind so many rows. -/
def stage (L M : List Sp) : Nat → Int → Option Sp
  | 0 => fun _ => none
  | 1 => putAll (fun _ => none) (writesL L)
  | _ => both L M
def RowsRel (X Y Z : Option Addr) (dx dy dz : Nat) (L M : List Sp) (mb pb : Nat) (w : World) (i : Value) (wr : World) : Prop :=
  ∃ j n : Nat, j ≤ 2 ∧ i = .int .i64 j ∧ n ≤ j * 64 ∧ PartSt X Y Z dx dy dz L M mb pb n (stage L M j) w wr
def HasRel (X Y Z : Option Addr) (dx dy dz : Nat) (L M : List Sp) (mb pb n : Nat) (T : Option Addr) (d : Nat) (w : World) (i : Value) (wr : World) : Prop :=
  ∃ k : Nat, k ≤ (writesL (L ++ M)).length ∧ i = .int .i64 k ∧ PartSt X Y Z dx dy dz L M mb pb n (both L M) w wr ∧ SlAt wr T d (writesL (L ++ M))
theorem writes_rowL (A : Option Addr) (c m : Nat) (L : List Sp) (w : World) (h : VarsAt w A L) (hl : L.length ≤ 300) (hm : L.length = m) : Calls Try.prog 16 #[.slice A m c] w (SlPost (writesL L) w) := hm ▸ writes_any A c L w h hl
theorem wlen (L : List Sp) : (writesL L).length ≤ 64 := rise_len _ _
set_option maxHeartbeats 8000000 in
set_option maxRecDepth 100000 in
theorem txnParts_walk (A B : Option Addr) (N c N' c' : Nat) (L M : List Sp) (w : World) (hL : TxnArg w A N c L) (hM : TxnArg w B N' c' M) (hN : N ≤ 4398046511104) (hN' : N' ≤ 4398046511104) :
    Calls Try.prog 6 #[.slice A N c, .slice B N' c'] w fun e w' => e = .returned (.bool true) ∧ Below w.heap.size w w' := by
  obtain ⟨rfl, hc, hm, hA⟩ := hL
  obtain ⟨rfl, hc', hm', hB⟩ := hM
  have HA := Lib.hid hA
  have HB := Lib.hid hB
  have hmm := @run_makeMap Try.prog
  have hsum : wrap64 ((L.length : Int) + (M.length : Int)) = (L.length : Int) + (M.length : Int) := by unfold wrap64; omega
  clear hA hm hc hB hm' hc'
  go_enter Try.func6, Try.ntmps6
  go_wp2_with fail
  refine (alive_any _).mono ?_
  rintro e w1 ⟨rfl, hb1⟩
  have B1 := Lib.hid hb1
  clear hb1
  by_cases hbig : 250 < L.length + M.length
  · have hbig' : (250 : Int) < (L.length : Int) + (M.length : Int) := by omega
    go_wp2
    go_ret
    exact ⟨rfl, B1.out⟩
  have hbig' : ¬ (250 : Int) < (L.length : Int) + (M.length : Int) := by omega
  have HL := Lib.hid (show L.length ≤ 300 by omega)
  have HM := Lib.hid (show M.length ≤ 300 by omega)
  have HLM := Lib.hid (show L.length + M.length ≤ 250 by omega)
  go_wp2_with fail
  refine (theirs_sl _ _ _ _ (HA.out.below B1.out (Nat.le_refl _)) HL.out).mono ?_
  rintro e w2 ⟨X, dx, rfl, hx, hb2⟩
  have X2 := Lib.hid hx
  have B2 := Lib.hid (B1.out.trans (hb2.mono B1.out.size))
  clear hx hb2
  go_wp2_with fail
  refine (theirs_sl _ _ _ _ (HB.out.below B2.out (Nat.le_refl _)) HM.out).mono ?_
  rintro e w3 ⟨Y, dy, rfl, hy, hb3⟩
  have Y3 := Lib.hid hy
  have X3 := Lib.hid (X2.out.below hb3)
  have B3 := Lib.hid (B2.out.trans (hb3.mono B2.out.size))
  clear hy hb3
  go_wp2_with (at_builtin; refine append_vars (base := w3.heap.size) vt rfl _ _ rfl rfl (own_nil _ _ _) _ _ L rfl rfl X3.out.at_ ?c1 ?c2 ?_)
  case c1 => have := HL.out; simp; omega
  case c2 => exact Nat.le_refl _
  intro v4 w4 ho4 hb4 hs4
  have O4 := Lib.hid ho4
  have Y4 := Lib.hid (Y3.out.below hb4)
  have H4 := Lib.hid hb4
  have Z4 := Lib.hid hs4
  clear ho4 hb4 hs4
  go_wp2_with (at_builtin; refine append_vars vt rfl _ _ rfl rfl O4.out _ _ M rfl rfl Y4.out.at_ ?c1 ?c2 ?_)
  case c1 => have := HLM.out; simp; omega
  case c2 => exact Z4.out
  intro v5 w5 ho5 hb5 hs5
  obtain ⟨Z, dz, rfl, hz⟩ := ho5.sl
  have hb35 := H4.out.trans hb5
  have S5 := Lib.hid (show SlAt w5 X dx L ∧ SlAt w5 Y dy M ∧ SlAt w5 Z dz (L ++ M) ∧ Below w.heap.size w w5 from ⟨X3.out.below hb35, Y3.out.below hb35, hz, B3.out.trans (hb35.mono B3.out.size)⟩)
  clear ho5 hb5 hs5 hz hb35 O4 Y4 H4 Z4 X3 Y3 X2
  have S7 := Lib.hid (show PartSt X Y Z dx dy dz L M w5.heap.size (w5.heap.size + 1) 0 (stage L M 0) w ((w5.alloc (.map #[] 0)).alloc (.cells #[.slice X L.length dx, .slice Y M.length dy] 29)) from
    ⟨(S5.out.1.alloc _).alloc _, (S5.out.2.1.alloc _).alloc _, (S5.out.2.2.1.alloc _).alloc _, MapV.alloc (mapP_made w5) _, Blk.new' (by simp) _ _, S5.out.2.2.2.size, (S5.out.2.2.2.alloc S5.out.2.2.2.size _).alloc (by have := S5.out.2.2.2.size; simp; omega) _⟩)
  clear S5
  go_wp2
  generalize ((w5.alloc (.map #[] 0)).alloc (.cells #[.slice X L.length dx, .slice Y M.length dy] 29)) = w7 at S7 ⊢
  generalize w5.heap.size + 1 = pb at S7 ⊢
  generalize w5.heap.size = mb at S7 ⊢
  go_loopw [39] (RowsRel X Y Z dx dy dz L M mb pb w) (fun i _ => 2 - (intOf i).toNat)
  case atStart => exact ⟨0, 0, by omega, rfl, Nat.zero_le _, S7.out⟩
  case round =>
    obtain ⟨j, n, hj, rfl, hn, hst⟩ := hrel
    have S := Lib.hid hst
    clear hst
    obtain rfl | rfl | rfl : j = 0 ∨ j = 1 ∨ j = 2 := by omega
    · have p0 : _ = some (Value.slice X L.length dx) := S.out.pair.cell 0
      go_wp2_with fail
      refine (writes_any _ _ L _ S.out.x.at_ HL.out).mono ?_
      rintro e w8 ⟨T8, d8, rfl, h8, hb8⟩
      have S8 := Lib.hid (show PartSt X Y Z dx dy dz L M mb pb (n + 0) (putAll (stage L M 0) ((writesL L).take 0)) w w8 from S.out.below hb8)
      have R8 := Lib.hid h8
      clear h8 hb8
      have HW := Lib.hid (wlen L)
      go_wp2
      go_loopw [46] (PutRel X Y Z dx dy dz L M mb pb n (stage L M 0) T8 d8 (writesL L) w) (fun i _ => (writesL L).length - (intOf i).toNat)
      case atStart => exact ⟨0, Nat.zero_le _, rfl, S8.out, R8.out⟩
      case round =>
        obtain ⟨k, hk, rfl, hst, hrw⟩ := hrel
        have SK := Lib.hid hst
        have RK := Lib.hid hrw
        clear hst hrw
        by_cases hlt : k < (writesL L).length
        · obtain ⟨ad, u, rfl, hu, hok, h4⟩ := RK.out.at_.at_ hlt
          have hmem := writes_mem (List.mem_of_getElem? hu)
          obtain ⟨c0, c1, c2, c3⟩ := h4
          have hlt' : (k : Int) < ((writesL L).length : Int) := by omega
          have hk64 : (k : Int) < 64 := by have := HW.out; omega
          have SA := Lib.hid (SK.out.alloc (.cells (stepA u) 39))
          have RA := Lib.hid (RK.out.alloc (.cells (stepA u) 39))
          have XA := Lib.hid (stepAt_new wr u 39)
          have d0 := XA.out.c0
          have d1 := XA.out.c1
          have d2 := XA.out.c2
          have d3 := XA.out.c3
          unfold stepA at SA RA d0 d1 d2 d3
          have HU := Lib.hid hu
          have HME := Lib.hid hmem
          have HOK := Lib.hid hok
          clear hu hmem hok
          go_wp2_with (at_mapUpdate; refine wpList_putP rfl _ _ _ 46 34 rfl Try.underlying46 mb _ _ zeroV _ rfl SA.out.map ?n1 u.x (valOf u) rfl rfl HOK.out.1 ?_)
          case n1 => have := HW.out; omega
          intro w9 hm9 hg9
          have hob := MapV.obj SA.out.map
          have S9 := Lib.hid (SA.out.put HME.out.1 HME.out.2.1 hm9.out hg9)
          obtain ⟨ob, hob1, hob2⟩ := hob
          have R9 := Lib.hid (RA.out.grown hg9 hob1 hob2)
          clear hm9 hg9 hob1 hob2
          go_wp2
          go_round
          case rel => exact ⟨k + 1, by omega, by go_num, by rw [take_step HU.out, putAll_snoc]; exact S9.out, R9.out⟩
          case measure => simp [intOf]; omega
        · have hlt' : ¬ (k : Int) < ((writesL L).length : Int) := by omega
          have SE : PartSt X Y Z dx dy dz L M mb pb (n + k) (stage L M 1) w wr := by
            have := SK.out
            rw [List.take_of_length_le (by omega)] at this
            exact this
          have HSE := Lib.hid SE
          clear SE
          go_wp2
          exact ⟨⟨_, _, _, ⟨1, n + k, by omega, rfl, by have := HW.out; omega, HSE.out⟩, rfl, rfl, rfl⟩, by simp [intOf]⟩
    · have p0 : _ = some (Value.slice Y M.length dy) := S.out.pair.cell 1
      go_wp2_with fail
      refine (writes_any _ _ M _ S.out.y.at_ HM.out).mono ?_
      rintro e w8 ⟨T8, d8, rfl, h8, hb8⟩
      have S8 := Lib.hid (show PartSt X Y Z dx dy dz L M mb pb (n + 0) (putAll (stage L M 1) ((writesL M).take 0)) w w8 from S.out.below hb8)
      have R8 := Lib.hid h8
      clear h8 hb8
      have HW := Lib.hid (wlen M)
      go_wp2
      go_loopw [46] (PutRel X Y Z dx dy dz L M mb pb n (stage L M 1) T8 d8 (writesL M) w) (fun i _ => (writesL M).length - (intOf i).toNat)
      case atStart => exact ⟨0, Nat.zero_le _, rfl, S8.out, R8.out⟩
      case round =>
        obtain ⟨k, hk, rfl, hst, hrw⟩ := hrel
        have SK := Lib.hid hst
        have RK := Lib.hid hrw
        clear hst hrw
        by_cases hlt : k < (writesL M).length
        · obtain ⟨ad, u, rfl, hu, hok, h4⟩ := RK.out.at_.at_ hlt
          have hmem := writes_mem (List.mem_of_getElem? hu)
          obtain ⟨c0, c1, c2, c3⟩ := h4
          have hlt' : (k : Int) < ((writesL M).length : Int) := by omega
          have hk64 : (k : Int) < 64 := by have := HW.out; omega
          have SA := Lib.hid (SK.out.alloc (.cells (stepA u) 39))
          have RA := Lib.hid (RK.out.alloc (.cells (stepA u) 39))
          have XA := Lib.hid (stepAt_new wr u 39)
          have d0 := XA.out.c0
          have d1 := XA.out.c1
          have d2 := XA.out.c2
          have d3 := XA.out.c3
          unfold stepA at SA RA d0 d1 d2 d3
          have HU := Lib.hid hu
          have HME := Lib.hid hmem
          have HOK := Lib.hid hok
          clear hu hmem hok
          go_wp2_with (at_mapUpdate; refine wpList_putP rfl _ _ _ 46 34 rfl Try.underlying46 mb _ _ zeroV _ rfl SA.out.map ?n1 u.x (valOf u) rfl rfl HOK.out.1 ?_)
          case n1 => have := HW.out; omega
          intro w9 hm9 hg9
          have hob := MapV.obj SA.out.map
          have S9 := Lib.hid (SA.out.put HME.out.1 HME.out.2.1 hm9.out hg9)
          obtain ⟨ob, hob1, hob2⟩ := hob
          have R9 := Lib.hid (RA.out.grown hg9 hob1 hob2)
          clear hm9 hg9 hob1 hob2
          go_wp2
          go_round
          case rel => exact ⟨k + 1, by omega, by go_num, by rw [take_step HU.out, putAll_snoc]; exact S9.out, R9.out⟩
          case measure => simp [intOf]; omega
        · have hlt' : ¬ (k : Int) < ((writesL M).length : Int) := by omega
          have SE : PartSt X Y Z dx dy dz L M mb pb (n + k) (stage L M 2) w wr := by
            have := SK.out
            rw [List.take_of_length_le (by omega)] at this
            exact this
          have HSE := Lib.hid SE
          clear SE
          go_wp2
          exact ⟨⟨_, _, _, ⟨2, n + k, by omega, rfl, by have := HW.out; omega, HSE.out⟩, rfl, rfl, rfl⟩, by simp [intOf]⟩
    · go_wp2_with fail
      refine (writes_rowL _ _ _ (L ++ M) _ S.out.all.at_ (by have := HLM.out; simp; omega) List.length_append).mono ?_
      rintro e w8 ⟨T8, d8, rfl, h8, hb8⟩
      have S8 := Lib.hid (show PartSt X Y Z dx dy dz L M mb pb n (both L M) w w8 from S.out.below hb8)
      have R8 := Lib.hid h8
      clear h8 hb8
      go_wp2
      go_loopw [61] (HasRel X Y Z dx dy dz L M mb pb n T8 d8 w) (fun i _ => (writesL (L ++ M)).length - (intOf i).toNat)
      case atStart => exact ⟨0, Nat.zero_le _, rfl, S8.out, R8.out⟩
      case round =>
        obtain ⟨k, hk, rfl, hst, hrw⟩ := hrel
        have SK := Lib.hid hst
        have RK := Lib.hid hrw
        clear hst hrw
        by_cases hlt : k < (writesL (L ++ M)).length
        · obtain ⟨ad, u, rfl, hu, hok, h4⟩ := RK.out.at_.at_ hlt
          have hmem := writes_mem (List.mem_of_getElem? hu)
          obtain ⟨c0, c1, c2, c3⟩ := h4
          have hlt' : (k : Int) < ((writesL (L ++ M)).length : Int) := by omega
          have hk64 : (k : Int) < 64 := by have := wlen (L ++ M); omega
          have SA := Lib.hid (SK.out.alloc (.cells (stepA u) 39))
          have RA := Lib.hid (RK.out.alloc (.cells (stepA u) 39))
          have XA := Lib.hid (stepAt_new wr u 39)
          have d0 := XA.out.c0
          have d1 := XA.out.c1
          have d2 := XA.out.c2
          have d3 := XA.out.c3
          have hm := MapP.look SA.out.map hok.1 (s := u) (by rw [both_at hmem.1 hmem.2.1]; exact hmem.2.2.2)
          have SB := Lib.hid (SA.out.alloc (.cells #[.int .i64 u.k, .int .i64 u.n] 34))
          have RB := Lib.hid (RA.out.alloc (.cells #[.int .i64 u.k, .int .i64 u.n] 34))
          have XB := Lib.hid (XA.out.alloc (.cells #[.int .i64 u.k, .int .i64 u.n] 34))
          have VB := Lib.hid (Blk.new' (W := wr.alloc (.cells (stepA u) 39)) (size_new _ _) #[.int .i64 u.k, .int .i64 u.n] 34)
          have e1 := XB.out.c1
          have e2 := XB.out.c2
          have v0 := VB.out.v0
          have v1 := VB.out.v1
          unfold stepA at SA RA SB RB d0 d1 d2 d3 hm e1 e2 v0 v1
          clear hu hmem hok
          go_wp2
          go_round
          case rel => exact ⟨k + 1, by omega, by go_num, SB.out, RB.out⟩
          case measure => simp [intOf]; omega
        · have hlt' : ¬ (k : Int) < ((writesL (L ++ M)).length : Int) := by omega
          have hln := MapV.len SK.out.map Try.underlying46
          rw [both_cnt] at hln
          go_wp2
          go_ret
          exact ⟨rfl, SK.out.bel⟩
end Go.Proofs.Ytgnajfijecmecaa.Tx
