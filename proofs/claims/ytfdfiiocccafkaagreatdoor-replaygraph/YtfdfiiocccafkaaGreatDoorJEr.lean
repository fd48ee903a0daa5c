/-
  The contract of Read.
  The contract of Read: who is refused.
  The contract of Read: who reads.
  The contract of Read, whole.
-/
import Derived.Test.YtfdfiiocccafkaaGreatDoorJEg
namespace Go.Proofs.YtfdfiiocccafkaaGreatDoor.En
open Go.RowKit
attribute [local go_sem ↓] Go.wp_at_zero Go.wp_at_succ
theorem results_val {fn : Func} {c u : Tmp} {ty : TypeId} (h : fn.results = #[.cell c ty, .tmp u]) (tmps : Array Value) (w : World) (b : Nat) (t : TypeId) (cs : Array Value) (fs : _) (x : Value) (hp : tmps.getD c undef = .pointer (some ⟨b, 0, none⟩)) (hx : tmps.getD u undef = x) (hv : Tx.Blk w b cs t)
    (hu : Tryz.prog.underlying ty = some (.struct fs)) (hi : (Tryz.prog.info? ty).map (·.size) = some cs.size) : (results fn tmps).run Tryz.prog w = .ok (.tuple #[.agg cs, x]) w := by
  have hp' : tmps[c]?.getD undef = .pointer (some ⟨b, 0, none⟩) := by simpa using hp
  have hx' : tmps[u]?.getD undef = x := by simpa using hx
  simp only [results, h]
  simp [hp', hx', asAddr, run_loadVar_row w b t ty _ (0, 0) _ hv hu rfl hi]
/-- the result's box, and all else as it was. -/
structure Bx (w : World) (W : World) : Prop where
  rb : Tx.Blk W w.heap.size #[.int .i64 0, .int .i64 0] 71
  bel : Below w.heap.size w W
theorem Bx.new (w : World) : Bx w (w.alloc (.cells #[.int .i64 0, .int .i64 0] 71)) := ⟨Tx.Blk.new _ _ _, Tx.below_new _ _⟩
theorem Bx.below {w W W' : World} (h : Bx w W) (hb : Below W.heap.size W W') : Bx w W' := ⟨h.rb.below hb, h.bel.trans (hb.mono h.bel.size)⟩
theorem Bx.alloc {w W : World} (h : Bx w W) (o : Obj) : Bx w (W.alloc o) := h.below (Tx.below_new _ _)
theorem Bx.tell {w W : World} (h : Bx w W) (x y : Value) : Tx.Blk ((W.setCell ⟨w.heap.size, 0, none⟩ x).setCell ⟨w.heap.size, 1, none⟩ y) w.heap.size #[x, y] 71 := (h.rb.set 0 x).set 1 y
theorem Bx.told {w W : World} (h : Bx w W) (x y : Value) : Below w.heap.size w ((W.setCell ⟨w.heap.size, 0, none⟩ x).setCell ⟨w.heap.size, 1, none⟩ y) := (h.bel.setCell (p := ⟨w.heap.size, 0, none⟩) (Nat.le_refl _) x).setCell (p := ⟨w.heap.size, 1, none⟩) (Nat.le_refl _) y
theorem look_yes {A : Option Addr} {c : Nat} {L : List Tx.Sp} {x : Int} {w : World} {s : Tx.Sp} (h : Tx.VarsAt w A L) (hl : L.length ≤ 300) (hs : Tx.look L x = some s) :
    Calls Tryz.prog 64 #[.slice A L.length c, .int .i64 x] w fun e w' => e = .returned (.tuple #[.agg #[.int .i64 s.k, .int .i64 s.n], .bool true]) ∧ Below w.heap.size w w' := by
  have := Tx.look_any A c L x w h hl
  unfold Tx.lookR at this
  rw [hs] at this
  exact this
theorem look_no {A : Option Addr} {c : Nat} {L : List Tx.Sp} {x : Int} {w : World} (h : Tx.VarsAt w A L) (hl : L.length ≤ 300) (hs : Tx.look L x = none) :
    Calls Tryz.prog 64 #[.slice A L.length c, .int .i64 x] w fun e w' => e = .returned (.tuple #[.agg #[.int .i64 0, .int .i64 0], .bool false]) ∧ Below w.heap.size w w' := by
  have := Tx.look_any A c L x w h hl
  unfold Tx.lookR at this
  rw [hs] at this
  exact this
/-- the result's box, the seat's and the variable's. -/
structure Rd (w : World) (sb : Nat) (se : Array Value) (y : Nat) (va : Array Value) (W : World) : Prop where
  bx : Bx w W
  se : Tx.Blk W sb se 115
  va : Tx.Blk W y va 141
theorem Rd.below {w W W' : World} {sb y : Nat} {se va : Array Value} (h : Rd w sb se y va W) (hb : Below W.heap.size W W') : Rd w sb se y va W' := ⟨h.bx.below hb, h.se.below hb, h.va.below hb⟩
theorem Rd.alloc {w W : World} {sb y : Nat} {se va : Array Value} (h : Rd w sb se y va W) (o : Obj) : Rd w sb se y va (W.alloc o) := h.below (Tx.below_new _ _)
/-- other steps in the seat's box. -/
theorem Rd.steps {w W : World} {sb y : Nat} {a b c : Value} {va : Array Value} (h : Rd w sb #[a, b, c] y va W) (d : Value) (h1 : sb ≠ w.heap.size) (h2 : sb ≠ y) (h3 : w.heap.size ≤ sb) : Rd w sb #[d, b, c] y va (W.setCell ⟨sb, 0, none⟩ d) :=
  ⟨⟨h.bx.rb.other (fun e => h1 e.symm) 0 d, h.bx.bel.setCell (p := ⟨sb, 0, none⟩) h3 d⟩, h.se.set 0 d, h.va.other (fun e => h2 e.symm) 0 d⟩
theorem read_none {g : Eng} {id x : Int} (h : liveAt g id = none) : read g id x = (g, (0, 0), whoE g id) := by unfold read; rw [h]
theorem read_arg {g : Eng} {id x : Int} {i : Nat} (h : liveAt g id = some i) (hx : ¬ St.has g.s x) : read g id x = (g, (0, 0), 2) := by unfold read; rw [h]; exact if_neg hx
theorem read_look {g : Eng} {id x : Int} {i : Nat} {s : Tx.Sp} (h : liveAt g id = some i) (hx : St.has g.s x) (hl : Tx.look (g.t i) x = some s) : read g id x = (g, (s.k, s.n), 0) := by
  unfold read; rw [h]; show (if St.has g.s x then _ else _) = _; rw [if_pos hx, hl]
theorem read_full {g : Eng} {id x : Int} {i : Nat} (h : liveAt g id = some i) (hx : St.has g.s x) (hl : Tx.look (g.t i) x = none) (hf : 200 ≤ (g.t i).length) : read g id x = (g, (0, 0), 4) := by
  unfold read; rw [h]; show (if St.has g.s x then _ else _) = _; rw [if_pos hx, hl]; exact if_pos hf
theorem read_no {g : Eng} {id x : Int} {i : Nat} (h : liveAt g id = some i) (hx : St.has g.s x) (hl : Tx.look (g.t i) x = none) (hf : ¬ 200 ≤ (g.t i).length) (hb : behind g.p i (writer (St.at_ g.s x)) = none) : read g id x = (closed g i false, (0, 0), 5) := by
  unfold read; rw [h]; show (if St.has g.s x then _ else _) = _; rw [if_pos hx, hl]; show (if 200 ≤ (g.t i).length then _ else _) = _; rw [if_neg hf, hb]
theorem read_yes {g : Eng} {id x : Int} {i : Nat} {q : Pl} (h : liveAt g id = some i) (hx : St.has g.s x) (hl : Tx.look (g.t i) x = none) (hf : ¬ 200 ≤ (g.t i).length) (hb : behind g.p i (writer (St.at_ g.s x)) = some q) : read g id x = (readTo g i x q, ((St.at_ g.s x).k, (St.at_ g.s x).n), 0) := by
  unfold read; rw [h]; show (if St.has g.s x then _ else _) = _; rw [if_pos hx, hl]; show (if 200 ≤ (g.t i).length then _ else _) = _; rw [if_neg hf, hb]
theorem right_tx {k n : Int} (h : St.right k n = true) : Tx.right k n = true := h
set_option maxHeartbeats 4000000 in
set_option maxRecDepth 100000 in
theorem read_any0 {F : Nat → Prop} {w : World} {b N : Nat} {g : Eng} (h : EngAt F w b N g) (hf : Fit g) (hv : ∀ v ∈ g.s, v.ok ∧ St.right v.k v.n = true) {id x : Int} (hid : St.i64p id) (hx : St.i64p x)
    (hc : ∀ i, liveAt g id = some i → St.has g.s x → Tx.look (g.t i) x = none → 200 ≤ (g.t i).length) :
    Calls Tryz.prog 28 #[.pointer (some ⟨b, 0, none⟩), .int .i64 id, .int .i64 x] w fun e w' => e = .returned (.tuple #[.agg #[.int .i64 (read g id x).2.1.1, .int .i64 (read g id x).2.1.2], .int .i64 (read g id x).2.2]) ∧ EngTo F w b (N + 1) (read g id x).1 w' := by
  obtain ⟨sA, sc, mb, lv, T, X, h⟩ := h
  have HX0 := Lib.hid (Bx.new w)
  have H := Lib.hid (h.below HX0.out.bel)
  have h0 := Lib.hid h
  have HM := Lib.hid (h.mono (Nat.le_succ N))
  have HF := Lib.hid hf
  have HV := Lib.hid hv
  have HC := Lib.hid hc
  have HXX := Lib.hid hx
  clear h hf hv hc hx
  cases hL : liveAt g id with
  | none =>
    have HL := Lib.hid hL
    rw [read_none hL]
    have HN := Lib.hid (whoE_ne g id)
    have hN : ((whoE g id) == 0) = false := by simpa using HN.out
    clear hL
    go_enter Tryz.func28, Tryz.ntmps28
    go_wp2_with fail
    refine (who_err H.out HF.out.ps hid HL.out).mono ?_
    rintro e w1 ⟨rfl, hb⟩
    have HX1 := Lib.hid ((HX0.out.below hb).alloc (.cells #[.slice none 0 0, .int .i64 0, .bool false] 115))
    clear hb
    have r0 := HX1.out.rb.cell 0
    have r1 := HX1.out.rb.cell 1
    have rf := HX1.out.rb.free
    go_wp2
    refine bodyPost_ret (results_val rfl _ _ w.heap.size 71 _ _ _ rfl rfl (HX1.out.tell _ _) Tryz.underlying71 Tx.val_size) rfl ?_
    exact ⟨rfl, EngTo.keep ⟨_, _, _, _, _, _, HM.out⟩ (HX1.out.told _ _)⟩
  | some i =>
    have HL := Lib.hid hL
    have HI := Lib.hid (liveAt_some hL)
    obtain ⟨A, cc, hT, hsl⟩ := H.out.ts i (.inl HI.out.2.1)
    have HT := Lib.hid hT
    have HSL := Lib.hid hsl
    have HTL := Lib.hid (HF.out.tl i (.inl HI.out.2.1))
    clear hL hT hsl
    by_cases hxs : St.has g.s x
    · have HXS := Lib.hid hxs
      obtain ⟨v, hv⟩ : ∃ v, St.at_ g.s x = v := ⟨_, rfl⟩
      have HVA := Lib.hid hv
      have HVO := Lib.hid (show v.ok ∧ St.right v.k v.n = true by rw [← hv]; exact HV.out _ (get_mem HXS.out))
      clear hxs hv
      cases hl : Tx.look (g.t i) x with
      | some s0 =>
        rw [read_look HL.out HXS.out hl]
        have HLK := Lib.hid hl
        clear hl
        go_enter Tryz.func28, Tryz.ntmps28
        go_wp2_with fail
        refine (who_live H.out HF.out.ps hid HL.out HT.out).mono ?_
        rintro e w1 ⟨rfl, hb⟩
        have HLT1 := Lib.hid (show w.heap.size < w1.heap.size from (HX0.out.below hb).rb.lt)
        have HX1 := Lib.hid ((HX0.out.below hb).alloc (.cells #[.slice A (g.t i).length cc, .int .i64 (i : Nat), .bool (g.c i)] 115))
        have HS1 := Lib.hid (Tx.Blk.new w1 #[.slice A (g.t i).length cc, .int .i64 (i : Nat), .bool (g.c i)] 115)
        have HE1 := Lib.hid (h0.out.below HX1.out.bel)
        have c100 := HE1.out.raw.store_
        clear hb
        go_wp2_with fail
        refine (sget_val HE1.out.st.at_ HXS.out HVA.out).mono ?_
        rintro e w2 ⟨rfl, hb2⟩
        have HR2 := Lib.hid (show Rd w w1.heap.size #[.slice A (g.t i).length cc, .int .i64 (i : Nat), .bool (g.c i)] w2.heap.size #[.int .i64 v.k, .int .i64 v.n, .int .i64 v.ver, .int .i64 v.wr, .int .u64 (v.m : Nat)] (w2.alloc (.cells #[.int .i64 v.k, .int .i64 v.n, .int .i64 v.ver, .int .i64 v.wr, .int .u64 (v.m : Nat)] 141)) from ⟨(HX1.out.below hb2).alloc _, (HS1.out.below hb2).alloc _, Tx.Blk.new _ _ _⟩)
        have HSL1 := Lib.hid (show SlF F w A cc (g.t i) by
          obtain ⟨A', cc', h1, h2⟩ := h0.out.ts i (.inl HI.out.2.1)
          rw [HT.out] at h1
          cases h1
          exact h2)
        have HLT := Lib.hid (show w.heap.size < w1.heap.size ∧ w1.heap.size < w2.heap.size from ⟨HLT1.out, Nat.lt_of_lt_of_le HS1.out.lt hb2.size⟩)
        clear hb2 c100
        have s0c := HR2.out.se.cell 0
        go_wp2_with fail
        refine (look_yes (HSL1.out.sl.below HR2.out.bx.bel).at_ (by have := HTL.out; omega) HLK.out).mono ?_
        rintro e w3 ⟨rfl, hb3⟩
        have HR3 := Lib.hid ((HR2.out.below hb3).alloc (.cells #[.int .i64 s0.k, .int .i64 s0.n] 71))
        have HV3 := Lib.hid (Tx.Blk.new w3 #[.int .i64 s0.k, .int .i64 s0.n] 71)
        have q0 := HV3.out.cell 0
        have q1 := HV3.out.cell 1
        have HX3 := Lib.hid HR3.out.bx
        clear hb3 s0c
        have r0 := HX3.out.rb.cell 0
        have r1 := HX3.out.rb.cell 1
        have rf := HX3.out.rb.free
        go_wp2
        refine bodyPost_ret (results_val rfl _ _ w.heap.size 71 _ _ _ rfl rfl (HX3.out.tell _ _) Tryz.underlying71 Tx.val_size) rfl ?_
        exact ⟨rfl, EngTo.keep ⟨_, _, _, _, _, _, HM.out⟩ (HX3.out.told _ _)⟩
      | none =>
        have hfull := HC.out i HL.out HXS.out hl
        rw [read_full HL.out HXS.out hl hfull]
        have HLK := Lib.hid hl
        have HAE := Lib.hid (show Tx.addE (g.t i) ⟨x, v.k, v.n, false⟩ = 4 by
          unfold Tx.addE
          have h1 := HF.out.len
          have h2 := HXS.out
          rw [if_pos ⟨h2.1, Int.lt_of_lt_of_le h2.2 (by omega), right_tx HVO.out.2⟩, if_pos hfull])
        clear hl hfull
        go_enter Tryz.func28, Tryz.ntmps28
        go_wp2_with fail
        refine (who_live H.out HF.out.ps hid HL.out HT.out).mono ?_
        rintro e w1 ⟨rfl, hb⟩
        have HLT1 := Lib.hid (show w.heap.size < w1.heap.size from (HX0.out.below hb).rb.lt)
        have HX1 := Lib.hid ((HX0.out.below hb).alloc (.cells #[.slice A (g.t i).length cc, .int .i64 (i : Nat), .bool (g.c i)] 115))
        have HS1 := Lib.hid (Tx.Blk.new w1 #[.slice A (g.t i).length cc, .int .i64 (i : Nat), .bool (g.c i)] 115)
        have HE1 := Lib.hid (h0.out.below HX1.out.bel)
        have c100 := HE1.out.raw.store_
        clear hb
        go_wp2_with fail
        refine (sget_val HE1.out.st.at_ HXS.out HVA.out).mono ?_
        rintro e w2 ⟨rfl, hb2⟩
        have HR2 := Lib.hid (show Rd w w1.heap.size #[.slice A (g.t i).length cc, .int .i64 (i : Nat), .bool (g.c i)] w2.heap.size #[.int .i64 v.k, .int .i64 v.n, .int .i64 v.ver, .int .i64 v.wr, .int .u64 (v.m : Nat)] (w2.alloc (.cells #[.int .i64 v.k, .int .i64 v.n, .int .i64 v.ver, .int .i64 v.wr, .int .u64 (v.m : Nat)] 141)) from ⟨(HX1.out.below hb2).alloc _, (HS1.out.below hb2).alloc _, Tx.Blk.new _ _ _⟩)
        have HSL1 := Lib.hid (show SlF F w A cc (g.t i) by
          obtain ⟨A', cc', h1, h2⟩ := h0.out.ts i (.inl HI.out.2.1)
          rw [HT.out] at h1
          cases h1
          exact h2)
        have HLT := Lib.hid (show w.heap.size < w1.heap.size ∧ w1.heap.size < w2.heap.size from ⟨HLT1.out, Nat.lt_of_lt_of_le HS1.out.lt hb2.size⟩)
        clear hb2 c100
        have s0c := HR2.out.se.cell 0
        go_wp2_with fail
        refine (look_no (HSL1.out.sl.below HR2.out.bx.bel).at_ (by have := HTL.out; omega) HLK.out).mono ?_
        rintro e w3 ⟨rfl, hb3⟩
        have HR3 := Lib.hid ((HR2.out.below hb3).alloc (.cells #[.int .i64 0, .int .i64 0] 71))
        clear hb3 s0c
        have s0c := HR3.out.se.cell 0
        have v0c := HR3.out.va.cell 0
        have v1c := HR3.out.va.cell 1
        go_wp2_with fail
        refine (Tx.read_any A cc (g.t i) x v.k v.n _ (HSL1.out.sl.below HR3.out.bx.bel).at_ (by have := HTL.out; omega) HXX.out HVO.out.1.1 HVO.out.1.2.1).mono ?_
        rw [HAE.out]
        rintro e w4 ⟨A2, c2, rfl, hv4, hb4, hf4⟩
        have HR4 := Lib.hid (HR3.out.below hb4)
        clear hv4 hf4 hb4 s0c v0c v1c
        have s0c := HR4.out.se.cell 0
        have s0f := HR4.out.se.free
        have HR5 := Lib.hid (HR4.out.steps (.slice A2 (Tx.addL (g.t i) ⟨x, v.k, v.n, false⟩).length c2) (by have := HLT.out.1; omega) (by have := HLT.out.2; omega) (by have := HLT.out.1; omega))
        have HX5 := Lib.hid HR5.out.bx
        have r0 := HX5.out.rb.cell 0
        have r1 := HX5.out.rb.cell 1
        have rf := HX5.out.rb.free
        go_wp2
        refine bodyPost_ret (results_val rfl _ _ w.heap.size 71 _ _ _ rfl rfl (HX5.out.tell _ _) Tryz.underlying71 Tx.val_size) rfl ?_
        exact ⟨rfl, EngTo.keep ⟨_, _, _, _, _, _, HM.out⟩ (HX5.out.told _ _)⟩
    · rw [read_arg HL.out hxs]
      have HXS := Lib.hid hxs
      clear hxs
      go_enter Tryz.func28, Tryz.ntmps28
      go_wp2_with fail
      refine (who_live H.out HF.out.ps hid HL.out HT.out).mono ?_
      rintro e w1 ⟨rfl, hb⟩
      have HLT1 := Lib.hid (show w.heap.size < w1.heap.size from (HX0.out.below hb).rb.lt)
      have HX1 := Lib.hid ((HX0.out.below hb).alloc (.cells #[.slice A (g.t i).length cc, .int .i64 (i : Nat), .bool (g.c i)] 115))
      have HS1 := Lib.hid (Tx.Blk.new w1 #[.slice A (g.t i).length cc, .int .i64 (i : Nat), .bool (g.c i)] 115)
      have HE1 := Lib.hid (h0.out.below HX1.out.bel)
      have c100 := HE1.out.raw.store_
      clear hb
      go_wp2_with fail
      refine (sget_no HE1.out.st.at_ HXS.out).mono ?_
      rintro e w2 ⟨rfl, hb2⟩
      have HX2 := Lib.hid ((HX1.out.below hb2).alloc (.cells #[.int .i64 0, .int .i64 0, .int .i64 0, .int .i64 0, .int .u64 0] 141))
      clear hb2
      have r0 := HX2.out.rb.cell 0
      have r1 := HX2.out.rb.cell 1
      have rf := HX2.out.rb.free
      go_wp2
      refine bodyPost_ret (results_val rfl _ _ w.heap.size 71 _ _ _ rfl rfl (HX2.out.tell _ _) Tryz.underlying71 Tx.val_size) rfl ?_
      exact ⟨rfl, EngTo.keep ⟨_, _, _, _, _, _, HM.out⟩ (HX2.out.told _ _)⟩
end Go.Proofs.YtfdfiiocccafkaaGreatDoor.En
namespace Go.Proofs.YtfdfiiocccafkaaGreatDoor.En
open Go.RowKit
attribute [local go_sem ↓] Go.wp_at_zero Go.wp_at_succ
theorem writer_len (v : St.Vr) : (writer v).length ≤ 1 := by unfold writer; split <;> simp
theorem writer_ints (v : St.Vr) (w : World) (hv : St.i64p v.wr) :
    Calls Tryz.prog 67 #[.agg #[.int .i64 v.k, .int .i64 v.n, .int .i64 v.ver, .int .i64 v.wr, .int .u64 (v.m : Nat)]] w fun e w' => ∃ A c, e = .returned (.slice A (writer v).length c) ∧ IntR w' A (writer v) ∧ Below w.heap.size w w' := by
  refine (writer_own v w hv).mono ?_
  rintro e w' ⟨u, rfl, ho, hb⟩
  obtain ⟨A, c, rfl, hi⟩ := OwnZ.slice (l := writer v) ho (fun z hz => by
    unfold writer at hz
    split at hz
    · cases hz
    · rw [List.mem_singleton] at hz; subst hz; exact hv)
  exact ⟨A, c, rfl, ⟨hi⟩, hb⟩
theorem Rd.row {w W : World} {sb y z : Nat} {se va : Array Value} (h : Rd w sb se y va W) (h1 : w.heap.size < z) (h2 : sb < z) (h3 : y < z) (cs : Array Value) : Rd w sb se y va (W.setRow z cs) := by
  have hb : Below z W (W.setRow z cs) := setRow_below (Below.refl _ _) (Nat.le_refl _)
  exact ⟨⟨(hb.block _ h1).trans h.bx.rb, h.bx.bel.trans (hb.mono (Nat.le_of_lt h1))⟩, (hb.block _ h2).trans h.se, (hb.block _ h3).trans h.va⟩
theorem setCell_id {W : World} {k i : Nat} {cs : Array Value} {t : TypeId} {v : Value} (h : Tx.Blk W k cs t) (hv : cs[i]? = some v) : W.setCell ⟨k, i, none⟩ v = W := by
  have hh : W.heap[k]? = some (.cells cs t (0, 0)) := h
  have hc : cs.setIfInBounds i v = cs := by
    apply Array.ext_getElem?
    intro j
    rw [Array.getElem?_setIfInBounds]
    split
    · next e =>
      subst e
      split
      · exact hv.symm
      · next hl => rw [Array.getElem?_eq_none (by omega)] at hv; cases hv
    · rfl
  have e : (W.setCell ⟨k, i, none⟩ v).heap = W.heap := by
    apply Array.ext_getElem?
    intro j
    by_cases hj : j = k
    · subst hj
      rw [heap_setCell_same W j i cs t v hh, hc]; exact hh.symm
    · exact Below.heap_setCell _ _ _ _ hj
  show { W with heap := (W.setCell ⟨k, i, none⟩ v).heap } = W
  rw [e]
set_option maxHeartbeats 4000000 in
set_option maxRecDepth 100000 in
theorem read_any1 {F : Nat → Prop} {w : World} {b N : Nat} {g : Eng} (h : EngAt F w b N g) (hf : Fit g) (hv : ∀ v ∈ g.s, v.ok ∧ St.right v.k v.n = true) {id x : Int} (hid : St.i64p id) (hx : St.i64p x) (hT : TabAt w)
    {i : Nat} (hL : liveAt g id = some i) (hxs : St.has g.s x) (hl : Tx.look (g.t i) x = none) (hfull : ¬ 200 ≤ (g.t i).length) (hb : behind g.p i (writer (St.at_ g.s x)) = none) (hlv : g.c i = false) :
    Calls Tryz.prog 28 #[.pointer (some ⟨b, 0, none⟩), .int .i64 id, .int .i64 x] w fun e w' => e = .returned (.tuple #[.agg #[.int .i64 (read g id x).2.1.1, .int .i64 (read g id x).2.1.2], .int .i64 (read g id x).2.2]) ∧ EngTo F w b (N + 1) (read g id x).1 w' := by
        rw [read_no hL hxs hl hfull hb]
        obtain ⟨sA, sc, mb, lv, T, X, h⟩ := h
        have hz := (zero_of_info zero_pool_info).1
        have HX0 := Lib.hid (Bx.new w)
        have H := Lib.hid (h.below HX0.out.bel)
        have h0 := Lib.hid h
        have HM := Lib.hid (h.mono (Nat.le_succ N))
        have HF := Lib.hid hf
        have HV := Lib.hid hv
        have HXX := Lib.hid hx
        have HTB := Lib.hid hT
        have HL := Lib.hid hL
        have HI := Lib.hid (liveAt_some hL)
        have HXS := Lib.hid hxs
        have HLK := Lib.hid hl
        obtain ⟨v, hv⟩ : ∃ v, St.at_ g.s x = v := ⟨_, rfl⟩
        have HVA := Lib.hid hv
        have HVO := Lib.hid (show v.ok ∧ St.right v.k v.n = true by rw [← hv]; exact HV.out _ (get_mem HXS.out))
        have HAE := Lib.hid (show Tx.addE (g.t i) ⟨x, v.k, v.n, false⟩ = 0 by
          unfold Tx.addE
          have h1 := HF.out.len
          have h2 := HXS.out
          rw [if_pos ⟨h2.1, Int.lt_of_lt_of_le h2.2 (by omega), right_tx HVO.out.2⟩, if_neg hfull])
        obtain ⟨L2, hL2⟩ : ∃ L2, g.t i ++ [⟨x, v.k, v.n, false⟩] = L2 := ⟨_, rfl⟩
        have HAL := Lib.hid (show Tx.addL (g.t i) ⟨x, v.k, v.n, false⟩ = L2 by unfold Tx.addL; rw [if_pos HAE.out]; exact hL2)
        have HL2 := Lib.hid hL2
        obtain ⟨A, cc, hT, hsl⟩ := H.out.ts i (.inl HI.out.2.1)
        have HT := Lib.hid hT
        have HSL := Lib.hid hsl
        have HTL := Lib.hid (HF.out.tl i (.inl HI.out.2.1))
        have HBH := Lib.hid (show behind g.p i (writer v) = none by rw [← hv]; exact hb)
        have HLV := Lib.hid hlv
        clear h hf hv hx hL hxs hl hfull hL2 hT hsl hb hlv
        go_enter Tryz.func28, Tryz.ntmps28
        go_wp2_with fail
        refine (who_live H.out HF.out.ps hid HL.out HT.out).mono ?_
        rintro e w1 ⟨rfl, hb⟩
        have HLT1 := Lib.hid (show w.heap.size < w1.heap.size from (HX0.out.below hb).rb.lt)
        have HX1 := Lib.hid ((HX0.out.below hb).alloc (.cells #[.slice A (g.t i).length cc, .int .i64 (i : Nat), .bool (g.c i)] 115))
        have HS1 := Lib.hid (Tx.Blk.new w1 #[.slice A (g.t i).length cc, .int .i64 (i : Nat), .bool (g.c i)] 115)
        have HE1 := Lib.hid (h0.out.below HX1.out.bel)
        have c100 := HE1.out.raw.store_
        clear hb
        go_wp2_with fail
        refine (sget_val HE1.out.st.at_ HXS.out HVA.out).mono ?_
        rintro e w2 ⟨rfl, hb2⟩
        have HR2 := Lib.hid (show Rd w w1.heap.size #[.slice A (g.t i).length cc, .int .i64 (i : Nat), .bool (g.c i)] w2.heap.size #[.int .i64 v.k, .int .i64 v.n, .int .i64 v.ver, .int .i64 v.wr, .int .u64 (v.m : Nat)] (w2.alloc (.cells #[.int .i64 v.k, .int .i64 v.n, .int .i64 v.ver, .int .i64 v.wr, .int .u64 (v.m : Nat)] 141)) from ⟨(HX1.out.below hb2).alloc _, (HS1.out.below hb2).alloc _, Tx.Blk.new _ _ _⟩)
        have HSL1 := Lib.hid (show SlF F w A cc (g.t i) by
          obtain ⟨A', cc', h1, h2⟩ := h0.out.ts i (.inl HI.out.2.1)
          rw [HT.out] at h1
          cases h1
          exact h2)
        have HLT := Lib.hid (show w.heap.size < w1.heap.size ∧ w1.heap.size < w2.heap.size from ⟨HLT1.out, Nat.lt_of_lt_of_le HS1.out.lt hb2.size⟩)
        clear hb2 c100
        have s0c := HR2.out.se.cell 0
        go_wp2_with fail
        refine (look_no (HSL1.out.sl.below HR2.out.bx.bel).at_ (by have := HTL.out; omega) HLK.out).mono ?_
        rintro e w3 ⟨rfl, hb3⟩
        have HR3 := Lib.hid ((HR2.out.below hb3).alloc (.cells #[.int .i64 0, .int .i64 0] 71))
        clear hb3 s0c
        have s0c := HR3.out.se.cell 0
        have v0c := HR3.out.va.cell 0
        have v1c := HR3.out.va.cell 1
        go_wp2_with fail
        refine (Tx.read_any A cc (g.t i) x v.k v.n _ (HSL1.out.sl.below HR3.out.bx.bel).at_ (by have := HTL.out; omega) HXX.out HVO.out.1.1 HVO.out.1.2.1).mono ?_
        rw [HAE.out, HAL.out]
        rintro e w4 ⟨A2, c2, rfl, hv4, hb4, hf4⟩
        have HR4 := Lib.hid (HR3.out.below hb4)
        have HLT3 := Lib.hid HR3.out.se.lt
        have HS5 := Lib.hid (SlF.box (F := fun k => F k ∨ k = w.heap.size) (x := w1.heap.size) (o := 0) (v := .slice A2 L2.length c2) hv4 hf4 (fun q hq => by
          rcases hq with hq | rfl
          · exact Nat.lt_of_lt_of_le (h0.out.lt q hq) HR3.out.bx.bel.size
          · exact HR3.out.bx.rb.lt) HLT3.out)
        clear hv4 hf4 hb4 s0c v0c v1c
        have s0c := HR4.out.se.cell 0
        have s0f := HR4.out.se.free
        have HR5 := Lib.hid (HR4.out.steps (.slice A2 L2.length c2) (by have := HLT.out.1; omega) (by have := HLT.out.2; omega) (by have := HLT.out.1; omega))
        clear HR2 HR3
        go_wp2
        clear s0c s0f
        generalize w4.setCell ⟨w1.heap.size, 0, none⟩ (.slice A2 L2.length c2) = W5 at *
        obtain ⟨ob, hob⟩ : ∃ ob, behind g.p i (writer v) = ob := ⟨_, rfl⟩
        have HOB := Lib.hid hob
        have HLA := Lib.hid (show (writer v).length ≤ 100000 by have := writer_len v; omega)
        clear hob
        go_cut [13, 14] from 60 to 71 (fun u t wx => ∃ z qq, u = .pointer (some ⟨z, 0, none⟩) ∧ t = .bool ob.isSome ∧ (∀ r, ob = some r → qq = r) ∧ PoolAt wx z qq 87 ∧ Rd w w1.heap.size #[.slice A2 L2.length c2, .int .i64 (i : Nat), .bool (g.c i)] w2.heap.size #[.int .i64 v.k, .int .i64 v.n, .int .i64 v.ver, .int .i64 v.wr, .int .u64 (v.m : Nat)] wx ∧ Below W5.heap.size W5 wx)
        case first =>
          have hBl := Since.mk (below_drew W5)
          refine wp_region_noPanic ?_
          refine region_z 15 (Rd w w1.heap.size #[.slice A2 L2.length c2, .int .i64 (i : Nat), .bool (g.c i)] w2.heap.size #[.int .i64 v.k, .int .i64 v.n, .int .i64 v.ver, .int .i64 v.wr, .int .u64 (v.m : Nat)]) 13 11 rfl (by kernel_rfl) (HR5.out.below (below_drew _)) (fun hHeld => ?_)
          refine take_z 0 61 (.pointer (some ⟨b, 0, none⟩)) rfl rfl (by kernel_rfl) (by kernel_rfl) (by kernel_rfl) (by kernel_rfl) (fun _ _ _ h => h) (Or.inl ⟨by rfl, by intro W hW; clear hW; go_simp⟩) hHeld ?_
          simp only [put_laws]
          refine take_z 1 62 (.pointer (some ⟨b, 0, none⟩)) rfl rfl (by kernel_rfl) (by kernel_rfl) (by kernel_rfl) (by kernel_rfl) (fun _ _ _ h => h) (Or.inl ⟨by rfl, by intro W hW; clear hW; go_simp⟩) hHeld ?_
          simp only [put_laws]
          refine take_z 2 63 (.pointer (some ⟨b, 0, none⟩)) rfl rfl (by kernel_rfl) (by kernel_rfl) (by kernel_rfl) (by kernel_rfl) (fun _ _ _ h => h) (Or.inl ⟨by rfl, by intro W hW; clear hW; go_simp⟩) hHeld ?_
          simp only [put_laws]
          refine take_z 3 64 (.agg (poolA g.p)) rfl rfl (by kernel_rfl) (by kernel_rfl) (by kernel_rfl) (by kernel_rfl) (fun _ _ _ h => h) (yields_eng (by rfl) 87 (.tmp 63) rfl b rfl g.p _ (fun W h => (h0.out.below h.bx.bel).raw.range) Tryz.underlying87 rfl pool_info) hHeld ?_
          simp only [put_laws]
          refine take_z 4 65 (.pointer (some ⟨w1.heap.size, 1, none⟩)) rfl rfl (by kernel_rfl) (by kernel_rfl) (by kernel_rfl) (by kernel_rfl) (fun _ _ _ h => h) (Or.inl ⟨by rfl, by intro W hW; clear hW; go_simp⟩) hHeld ?_
          simp only [put_laws]
          refine take_z 5 66 (.int .i64 (i : Nat)) rfl rfl (by kernel_rfl) (by kernel_rfl) (by kernel_rfl) (by kernel_rfl) (fun _ _ _ h => h) (Or.inl ⟨by rfl, by intro W hW; have hc := hW.se.cell 1; clear hW; go_simp⟩) hHeld ?_
          simp only [put_laws]
          refine take_z 6 67 (.agg (#[.int .i64 v.k, .int .i64 v.n, .int .i64 v.ver, .int .i64 v.wr, .int .u64 (v.m : Nat)])) rfl rfl (by kernel_rfl) (by kernel_rfl) (by kernel_rfl) (by kernel_rfl) (fun _ _ _ h => h) (yields_blk (by rfl) 141 (.tmp 10) rfl w2.heap.size rfl 141 #[.int .i64 v.k, .int .i64 v.n, .int .i64 v.ver, .int .i64 v.wr, .int .u64 (v.m : Nat)] _ (fun W h => h.va) Tryz.underlying141 Sx.var_size) hHeld ?_
          simp only [put_laws]
          refine anyZ_ready (rs := [7, 12]) (by kernel_rfl) (by simp) ?_
          refine AllZ.cons rfl (fun K hK => ?_) (AllZ.cons rfl (fun K hK => ?_) AllZ.nil)
          · go_simp
            refine (writer_ints v _ HVO.out.1.2.2.2.1).mono ?_
            rintro e wu ⟨WA, wcc, rfl, hI, hb⟩
            try go_simp
            have hPrev := hHeld
            have hHeld := hHeld.below hb
            have hBl := hBl.below hb
            clear hPrev
            refine hK.out _ _ hHeld (fun hHeld => ?_)
            clear hK K
            refine anyZ_ready (rs := [8, 12]) (by kernel_rfl) (by simp) ?_
            refine AllZ.cons rfl (fun K hK => ?_) (AllZ.cons rfl (fun K hK => ?_) AllZ.nil)
            · go_simp
              refine (behind_val HOB.out _ HF.out.ps HF.out.cnt HI.out.1 hI.at_ HLA.out (HTB.out.below hHeld.bx.bel HTB.out.lt)).mono ?_
              rintro e wz ⟨⟨qq, rfl, hqq⟩, hb⟩
              try go_simp
              have hPrev := hHeld
              have hHeld := hHeld.below hb
              have hBl := hBl.below hb
              have hI := hI.below hb
              clear hPrev
              refine hK.out _ _ hHeld (fun hHeld => ?_)
              clear hK K
              refine take_z 9 60 (.tuple #[.agg (poolA qq), .bool ob.isSome]) rfl rfl (by kernel_rfl) (by kernel_rfl) (by kernel_rfl) (by kernel_rfl) (fun _ _ _ h => h) (Or.inl ⟨by rfl, by intro W hW; clear hW; go_simp⟩) hHeld ?_
              simp only [put_laws]
              refine take_z 10 70 (.agg (poolA qq)) rfl rfl (by kernel_rfl) (by kernel_rfl) (by kernel_rfl) (by kernel_rfl) (fun _ _ _ h => h) (Or.inl ⟨by rfl, by intro W hW; clear hW; go_simp⟩) hHeld ?_
              simp only [put_laws]
              refine take_e 71 (.bool ob.isSome) rfl rfl (by kernel_rfl) (by kernel_rfl) (by kernel_rfl) (fun _ _ _ h => h) (Or.inl ⟨by rfl, by intro W hW; clear hW; go_simp⟩) ?_
              simp only [put_laws]
              refine anyZ_ready (rs := [12]) (by kernel_rfl) (by simp) ?_
              refine AllZ.cons rfl (fun K hK => ?_) AllZ.nil
              go_simp
              have hN : Tx.Blk ((wz.alloc (.cells (poolA zeroP) 87))) (wz.heap.size) (poolA zeroP) 87 := Tx.Blk.new (wz) (poolA zeroP) 87
              have hPrev := hHeld
              have hHeld := hHeld.below (show Below _ _ ((wz.alloc (.cells (poolA zeroP) 87))) from Tx.below_new (wz) (.cells (poolA zeroP) 87))
              have hz1 := hPrev.va.lt
              have hz2 := hPrev.se.lt
              have hz3 := hPrev.bx.rb.lt
              have hz4 := hBl.bel.size
              have hBl := hBl.below (show Below _ _ ((wz.alloc (.cells (poolA zeroP) 87))) from Tx.below_new (wz) (.cells (poolA zeroP) 87))
              have hI := hI.below (show Below _ _ ((wz.alloc (.cells (poolA zeroP) 87))) from Tx.below_new (wz) (.cells (poolA zeroP) 87))
              generalize (wz.alloc (.cells (poolA zeroP) 87)) = wa at *
              clear hPrev
              refine hK.out _ _ hHeld (fun hHeld => ?_)
              clear hK K
              refine anyZ_ready (rs := [13]) (by kernel_rfl) (by simp) ?_
              refine AllZ.last rfl rfl (fun K hK => ?_)
              refine step_store_box rfl 87 (.tmp 13) (.tmp 70) rfl rfl _ zeroP qq 87 rfl rfl hN pool_info ?_
              refine hK.out _ _ ?_
              clear hK K
              refine anyZ_ready (rs := [14]) (by kernel_rfl) (by simp) ?_
              refine AllZ.last rfl rfl (fun K hK => ?_)
              go_simp
              refine hK.out _ _ ?_
              clear hK K
              refine anyZ_done (by kernel_rfl) ?_ _
              refine NoPanic.normal ?_
              go_wp2_with fail
              go_meet
              exact ⟨_, qq, rfl, rfl, hqq, poolAt_put hN, hHeld.row hz3 hz2 hz1 _, setRow_below hBl.bel hz4⟩
            · go_simp
              have hN : Tx.Blk ((wu.alloc (.cells (poolA zeroP) 87))) (wu.heap.size) (poolA zeroP) 87 := Tx.Blk.new (wu) (poolA zeroP) 87
              have hPrev := hHeld
              have hHeld := hHeld.below (show Below _ _ ((wu.alloc (.cells (poolA zeroP) 87))) from Tx.below_new (wu) (.cells (poolA zeroP) 87))
              have hz1 := hPrev.va.lt
              have hz2 := hPrev.se.lt
              have hz3 := hPrev.bx.rb.lt
              have hz4 := hBl.bel.size
              have hBl := hBl.below (show Below _ _ ((wu.alloc (.cells (poolA zeroP) 87))) from Tx.below_new (wu) (.cells (poolA zeroP) 87))
              have hI := hI.below (show Below _ _ ((wu.alloc (.cells (poolA zeroP) 87))) from Tx.below_new (wu) (.cells (poolA zeroP) 87))
              generalize (wu.alloc (.cells (poolA zeroP) 87)) = wa at *
              clear hPrev
              refine hK.out _ _ hHeld (fun hHeld => ?_)
              clear hK K
              refine anyZ_ready (rs := [8]) (by kernel_rfl) (by simp) ?_
              refine AllZ.cons rfl (fun K hK => ?_) AllZ.nil
              go_simp
              refine (behind_val HOB.out _ HF.out.ps HF.out.cnt HI.out.1 hI.at_ HLA.out (HTB.out.below hHeld.bx.bel HTB.out.lt)).mono ?_
              rintro e wz ⟨⟨qq, rfl, hqq⟩, hb⟩
              try go_simp
              have hPrev := hHeld
              have hHeld := hHeld.below hb
              have hBl := hBl.below hb
              have hI := hI.below hb
              have hN := hN.below hb
              clear hPrev
              refine hK.out _ _ hHeld (fun hHeld => ?_)
              clear hK K
              refine take_z 9 60 (.tuple #[.agg (poolA qq), .bool ob.isSome]) rfl rfl (by kernel_rfl) (by kernel_rfl) (by kernel_rfl) (by kernel_rfl) (fun _ _ _ h => h) (Or.inl ⟨by rfl, by intro W hW; clear hW; go_simp⟩) hHeld ?_
              simp only [put_laws]
              refine take_z 10 70 (.agg (poolA qq)) rfl rfl (by kernel_rfl) (by kernel_rfl) (by kernel_rfl) (by kernel_rfl) (fun _ _ _ h => h) (Or.inl ⟨by rfl, by intro W hW; clear hW; go_simp⟩) hHeld ?_
              simp only [put_laws]
              refine take_e 71 (.bool ob.isSome) rfl rfl (by kernel_rfl) (by kernel_rfl) (by kernel_rfl) (fun _ _ _ h => h) (Or.inl ⟨by rfl, by intro W hW; clear hW; go_simp⟩) ?_
              simp only [put_laws]
              refine anyZ_ready (rs := [13]) (by kernel_rfl) (by simp) ?_
              refine AllZ.last rfl rfl (fun K hK => ?_)
              refine step_store_box rfl 87 (.tmp 13) (.tmp 70) rfl rfl _ zeroP qq 87 rfl rfl hN pool_info ?_
              refine hK.out _ _ ?_
              clear hK K
              refine anyZ_ready (rs := [14]) (by kernel_rfl) (by simp) ?_
              refine AllZ.last rfl rfl (fun K hK => ?_)
              go_simp
              refine hK.out _ _ ?_
              clear hK K
              refine anyZ_done (by kernel_rfl) ?_ _
              refine NoPanic.normal ?_
              go_wp2_with fail
              go_meet
              exact ⟨_, qq, rfl, rfl, hqq, poolAt_put hN, hHeld.row hz3 hz2 hz1 _, setRow_below hBl.bel hz4⟩
          · go_simp
            have hN : Tx.Blk ((W5.alloc (.cells (poolA zeroP) 87)).drew) (W5.heap.size) (poolA zeroP) 87 := Tx.Blk.new (W5.drew) (poolA zeroP) 87
            have hPrev := hHeld
            have hHeld := hHeld.below (show Below _ _ ((W5.alloc (.cells (poolA zeroP) 87)).drew) from Tx.below_new (W5.drew) (.cells (poolA zeroP) 87))
            have hz1 := hPrev.va.lt
            have hz2 := hPrev.se.lt
            have hz3 := hPrev.bx.rb.lt
            have hz4 := hBl.bel.size
            have hBl := hBl.below (show Below _ _ ((W5.alloc (.cells (poolA zeroP) 87)).drew) from Tx.below_new (W5.drew) (.cells (poolA zeroP) 87))
            generalize (W5.alloc (.cells (poolA zeroP) 87)).drew = wa at *
            clear hPrev
            refine hK.out _ _ hHeld (fun hHeld => ?_)
            clear hK K
            refine anyZ_ready (rs := [7]) (by kernel_rfl) (by simp) ?_
            refine AllZ.cons rfl (fun K hK => ?_) AllZ.nil
            go_simp
            refine (writer_ints v _ HVO.out.1.2.2.2.1).mono ?_
            rintro e wu ⟨WA, wcc, rfl, hI, hb⟩
            try go_simp
            have hPrev := hHeld
            have hHeld := hHeld.below hb
            have hBl := hBl.below hb
            have hN := hN.below hb
            clear hPrev
            refine hK.out _ _ hHeld (fun hHeld => ?_)
            clear hK K
            refine anyZ_ready (rs := [8]) (by kernel_rfl) (by simp) ?_
            refine AllZ.cons rfl (fun K hK => ?_) AllZ.nil
            go_simp
            refine (behind_val HOB.out _ HF.out.ps HF.out.cnt HI.out.1 hI.at_ HLA.out (HTB.out.below hHeld.bx.bel HTB.out.lt)).mono ?_
            rintro e wz ⟨⟨qq, rfl, hqq⟩, hb⟩
            try go_simp
            have hPrev := hHeld
            have hHeld := hHeld.below hb
            have hBl := hBl.below hb
            have hN := hN.below hb
            have hI := hI.below hb
            clear hPrev
            refine hK.out _ _ hHeld (fun hHeld => ?_)
            clear hK K
            refine take_z 9 60 (.tuple #[.agg (poolA qq), .bool ob.isSome]) rfl rfl (by kernel_rfl) (by kernel_rfl) (by kernel_rfl) (by kernel_rfl) (fun _ _ _ h => h) (Or.inl ⟨by rfl, by intro W hW; clear hW; go_simp⟩) hHeld ?_
            simp only [put_laws]
            refine take_z 10 70 (.agg (poolA qq)) rfl rfl (by kernel_rfl) (by kernel_rfl) (by kernel_rfl) (by kernel_rfl) (fun _ _ _ h => h) (Or.inl ⟨by rfl, by intro W hW; clear hW; go_simp⟩) hHeld ?_
            simp only [put_laws]
            refine take_e 71 (.bool ob.isSome) rfl rfl (by kernel_rfl) (by kernel_rfl) (by kernel_rfl) (fun _ _ _ h => h) (Or.inl ⟨by rfl, by intro W hW; clear hW; go_simp⟩) ?_
            simp only [put_laws]
            refine anyZ_ready (rs := [13]) (by kernel_rfl) (by simp) ?_
            refine AllZ.last rfl rfl (fun K hK => ?_)
            refine step_store_box rfl 87 (.tmp 13) (.tmp 70) rfl rfl _ zeroP qq 87 rfl rfl hN pool_info ?_
            refine hK.out _ _ ?_
            clear hK K
            refine anyZ_ready (rs := [14]) (by kernel_rfl) (by simp) ?_
            refine AllZ.last rfl rfl (fun K hK => ?_)
            go_simp
            refine hK.out _ _ ?_
            clear hK K
            refine anyZ_done (by kernel_rfl) ?_ _
            refine NoPanic.normal ?_
            go_wp2_with fail
            go_meet
            exact ⟨_, qq, rfl, rfl, hqq, poolAt_put hN, hHeld.row hz3 hz2 hz1 _, setRow_below hBl.bel hz4⟩
        case rest =>
          obtain ⟨z, qq, rfl, rfl, hqq, hpz, hrd, hb5⟩ := hcut
          have HB5 := Lib.hid hb5
          clear hb5
          have HPZ := Lib.hid hpz
          have HRD := Lib.hid hrd
          clear hpz hrd
          obtain rfl : none = ob := HBH.out.symm.trans HOB.out
          clear hqq
          go_wp2_with fail
          have hend := end_any (N := N + 1) ⟨_, _, _, _, _, _, HM.out.below HRD.out.bx.bel⟩ HF.out.ps HF.out.cnt HF.out.tl HF.out.len HF.out.log HI.out.2.1
          rw [HI.out.2.2, closed_end HLV.out] at hend
          refine hend.mono ?_
          rintro e w6 ⟨rfl, h6⟩
          have H6 := Lib.hid (EngTo.pre HRD.out.bx.bel h6)
          have HB6 := Lib.hid (show Tx.Blk w6 w.heap.size #[.int .i64 0, .int .i64 0] 71 by
            obtain ⟨F', _, hk, _⟩ := h6
            exact (hk.block _ HRD.out.bx.rb.lt (fun hF => by have := h0.out.lt _ hF; omega)).trans HRD.out.bx.rb)
          have r0 := HB6.out.cell 0
          have r1 := HB6.out.cell 1
          have rf := HB6.out.free
          clear h6 hend
          go_wp2
          have e1 : (w6.setCell ⟨w.heap.size, 0, none⟩ (.int .i64 0)).setCell ⟨w.heap.size, 1, none⟩ (.int .i64 0) = w6 := by rw [setCell_id HB6.out rfl, setCell_id HB6.out rfl]
          rw [e1]
          refine bodyPost_ret (results_val rfl _ _ w.heap.size 71 _ _ _ rfl rfl HB6.out Tryz.underlying71 Tx.val_size) rfl ?_
          exact ⟨rfl, H6.out⟩
end Go.Proofs.YtfdfiiocccafkaaGreatDoor.En
namespace Go.Proofs.YtfdfiiocccafkaaGreatDoor.En
open Go.RowKit
attribute [local go_sem ↓] Go.wp_at_zero Go.wp_at_succ
/-- the call's boxes, and the engine's cells. -/
structure RdG (F : Nat → Prop) (w : World) (sb : Nat) (se : Array Value) (y : Nat) (va : Array Value) (b : Nat) (q : Pl) (sA : Option Addr) (sc mb : Nat) (lv : Value) (g : Eng) (W : World) : Prop where
  rb : Tx.Blk W w.heap.size #[.int .i64 0, .int .i64 0] 71
  se : Tx.Blk W sb se 115
  va : Tx.Blk W y va 141
  kp : Kp F w W
  raw : RawAt W b q (.slice sA g.s.length sc) (.map (some mb)) lv g.n
  st : Sx.VarsAt W sA g.s
theorem RdG.below {F : Nat → Prop} {w W W' : World} {sb y b sc mb : Nat} {se va : Array Value} {q : Pl} {sA : Option Addr} {lv : Value} {g : Eng} (h : RdG F w sb se y va b q sA sc mb lv g W) (hb : Below W.heap.size W W') : RdG F w sb se y va b q sA sc mb lv g W' := ⟨h.rb.below hb, h.se.below hb, h.va.below hb, h.kp.below hb, h.raw.below hb, h.st.below hb (Nat.le_refl _)⟩
theorem SlF.low {F : Nat → Prop} {w W : World} {A : Option Addr} {c : Nat} {L : List Tx.Sp} (h : SlF F w A c L) (hk : Kp F w W) : SlF (fun k => k = w.heap.size) W A c L :=
  ⟨(h.kp hk).sl, fun hl ad e hx => by have := h.sl.at_.low ad e hl; omega⟩
theorem EngIs.box {F : Nat → Prop} {W : World} {b N sc mb k : Nat} {g : Eng} {sA : Option Addr} {lv : Value} {T : Nat → Value} {X : List Xe} (h : EngIs F W b N g sA sc mb lv T X) (hk : ¬ F k) (h1 : VrF (fun j => j = k) W sA g.s) (h2 : TAt (fun j => j = k) W g T) (h3 : ∀ x ∈ X, EntAt (fun j => j = k) W x) (o : Nat) (v : Value) :
    EngIs F (W.setCell ⟨k, o, none⟩ v) b N g sA sc mb lv T X ∧ VrF (fun j => j = k) (W.setCell ⟨k, o, none⟩ v) sA g.s ∧ TAt (fun j => j = k) (W.setCell ⟨k, o, none⟩ v) g T ∧ ∀ x ∈ X, EntAt (fun j => j = k) (W.setCell ⟨k, o, none⟩ v) x := by
  have hK : Kp (fun j => j = k) W (W.setCell ⟨k, o, none⟩ v) := Kp.setCell (F := fun j => j = k) (Kp.refl _ W) (p := ⟨k, o, none⟩) (.inl rfl) v
  have ho : ∀ j, j ≠ k → (W.setCell ⟨k, o, none⟩ v).heap[j]? = W.heap[j]? := fun j e => Below.heap_setCell _ _ _ _ e
  have k1 := h1.kp hK
  have k2 := h2.kp hK
  have k3 : ∀ x ∈ X, EntAt (fun j => j = k) (W.setCell ⟨k, o, none⟩ v) x := fun x hx => (h3 x hx).kp hK
  obtain ⟨sz, hm⟩ := h.mp
  have hbk : b ≠ k := fun e => hk (e ▸ h.Fb)
  have hmk : mb ≠ k := fun e => hk (e ▸ h.Fm)
  refine ⟨⟨h.raw.other (ho b hbk), ⟨k1.at_, h.st.off⟩, ⟨sz, MapV.other hm (ho mb hmk)⟩, fun i hi => ?_, row_other h.lg (fun j e => ho j (fun e' => hk ((h.foot k).2 (.inr (.inr (e' ▸ e)))))), h.xs, fun x hx => ?_, h.foot⟩, k1, k2, k3⟩
  · obtain ⟨A, c, e, hs⟩ := h.ts i hi
    obtain ⟨A', c', e', hs'⟩ := k2 i hi
    rw [e] at e'; cases e'
    exact ⟨A, c, e, ⟨hs'.sl, hs.off⟩⟩
  · obtain ⟨⟨A, c, e, hs⟩, ⟨B, d, f, ht⟩⟩ := h.xe x hx
    obtain ⟨⟨A', c', e', hs'⟩, ⟨B', d', f', ht'⟩⟩ := k3 x hx
    rw [e] at e'; cases e'
    rw [f] at f'; cases f'
    exact ⟨⟨A, c, e, ⟨hs'.sl, hs.off⟩⟩, ⟨B, d, f, ⟨ht'.sl, ht.off⟩⟩⟩
theorem seatF_more {g : Eng} {q : Pl} (m : More g.p q) (S : List St.Vr) (T : Nat → Value) : seatF T ⟨q, S, g.t, g.c, g.log, g.n⟩ = seatF T g := by
  funext y
  unfold seatF slotAt tkB
  show ((List.range 32).find? fun i => (q.live ||| q.done).testBit i && decide (q.ids i = y)).map _ = _
  rw [m.live, m.done, m.ids]
  rfl
theorem read_last {F : Nat → Prop} {w W8 W' : World} {b N sc mb i j c3 c2 sz : Nat} {g : Eng} {sA A3 A2 : Option Addr} {lv : Value} {T : Nat → Value} {X : List Xe} {q : Pl} {id : Int} {v : St.Vr} {L2 : List Tx.Sp} (h : EngIs F w b N g sA sc mb lv T X) (_hs : Po.Sound g.p) (m : More g.p q)
    (hi : i < 32 ∧ g.p.live.testBit i = true ∧ g.p.ids i = id) (hmk : St.markL g.s (j : Nat) (i : Nat) = g.s.set j (St.mk (i : Nat) v)) (hva : St.at_ g.s (j : Nat) = v) (hl : g.t i ++ [⟨(j : Nat), v.k, v.n, false⟩] = L2) (hF : F = Foot b mb lv)
    (hw : EngW W8 b N q (g.s.set j (St.mk (i : Nat) v)) (seatF T g) g.log g.n A3 c3 mb lv X) (hv : VrF (fun k => F k ∨ k = w.heap.size) W8 A3 (g.s.set j (St.mk (i : Nat) v))) (ht : SlF (fun k => F k ∨ k = w.heap.size) W8 A2 c2 L2) (hk : Kp F w W8)
    (hm : Tx.MapV W' mb (N + 1) sz zeroSeat (fun t => if t = id then some (.agg #[.slice A2 L2.length c2, .int .i64 (i : Nat), .bool (g.c i)]) else seatF T g t)) (hg : W8.drew.grownBy W' (some mb)) (x y : Value) :
    EngTo F w b (N + 1) (readTo g i (j : Nat) q) ((W'.setCell ⟨w.heap.size, 0, none⟩ x).setCell ⟨w.heap.size, 1, none⟩ y) := by
  obtain rfl := hF
  have hnF : ¬ Foot b mb lv w.heap.size := fun e => by have := h.lt _ e; omega
  have tke : ∀ k, Po.tk q k → Po.tk g.p k := fun k hk => by unfold Po.tk at *; rw [m.live, m.done] at hk; exact hk
  have hT1 : TAt (Foot b mb lv) W8 ⟨q, g.s.set j (St.mk (i : Nat) v), g.t, g.c, g.log, g.n⟩ T := fun k hk' => (h.ts.kp hk) k (tke k hk')
  have h8 : EngIs (Foot b mb lv) W8 b N ⟨q, g.s.set j (St.mk (i : Nat) v), g.t, g.c, g.log, g.n⟩ A3 c3 mb lv T X := EngW.is (by rw [seatF_more m]; exact hw) hT1
  have hkd : Kp (Foot b mb lv) W8 W' := (Kp.of_below (below_drew W8)).trans ((Kp.refl _ W8.drew).grown hg (fun k e => by cases e; exact .inl (.inr (.inl rfl))))
  have hkd2 : Kp (fun k => Foot b mb lv k ∨ k = w.heap.size) W8 W' := (Kp.of_below (below_drew W8)).trans ((Kp.refl _ W8.drew).grown hg (fun k e => by cases e; exact .inl (.inl (.inr (.inl rfl)))))
  have e : q.ids i = id := by rw [m.ids]; exact hi.2.2
  have h9 := h8.drew.update (i := i) (l := L2) (A := A2) (c := c2) m.sound (.inl (by show q.live.testBit i = true; rw [m.live]; exact hi.2.1)) (by rw [seatF_more m]; show Tx.MapV W' mb (N + 1) sz zeroSeat (fun t => if t = q.ids i then _ else _); rw [e]; exact hm) hg
    ((ht.foot (F' := Foot b mb lv) (fun k _ hk => .inl hk)).kp (Kp.of_below (below_drew W8)))
  have eE : setT ⟨q, g.s.set j (St.mk (i : Nat) v), g.t, g.c, g.log, g.n⟩ i L2 = readTo g i (j : Nat) q := by
    unfold setT readTo
    rw [hmk, hva, hl]
  rw [eE] at h9
  have h1 : VrF (fun k => k = w.heap.size) W' A3 (readTo g i (j : Nat) q).s := by
    show VrF _ W' A3 (St.markL g.s (j : Nat) (i : Nat))
    rw [hmk]
    have := hv.kp hkd2
    exact ⟨this.at_, fun hl ad e hx => this.off hl ad e (.inr hx)⟩
  have h2 : TAt (fun k => k = w.heap.size) W' (readTo g i (j : Nat) q) (ud T i (.slice A2 L2.length c2)) := fun k hk' => by
    have hk2 := tke k hk'
    by_cases ek : k = i
    · subst ek
      have := ht.kp hkd2
      refine ⟨A2, c2, ?_, ?_⟩
      · rw [ud_same]; show _ = Value.slice A2 (ud g.t k _ k).length c2; rw [ud_same, hva, hl]
      · show SlF _ W' A2 c2 (ud g.t k _ k); rw [ud_same, hva, hl]; exact ⟨this.sl, fun hl ad e hx => this.off hl ad e (.inr hx)⟩
    · obtain ⟨A, c, e, hsl⟩ := h.ts k hk2
      refine ⟨A, c, ?_, ?_⟩
      · rw [ud_other ek]; show _ = Value.slice A (ud g.t i _ k).length c; rw [ud_other ek]; exact e
      · show SlF _ W' A c (ud g.t i _ k); rw [ud_other ek]; exact hsl.low (hk.trans hkd)
  have h3 : ∀ x ∈ X, EntAt (fun k => k = w.heap.size) W' x := fun x hx => by
    obtain ⟨⟨A, c, e, h1⟩, ⟨B, d, f, h2⟩⟩ := h.xe x hx
    exact ⟨⟨A, c, e, h1.low (hk.trans hkd)⟩, ⟨B, d, f, h2.low (hk.trans hkd)⟩⟩
  obtain ⟨b9, b1, b2, b3⟩ := h9.box hnF h1 h2 h3 0 x
  obtain ⟨c9, _⟩ := b9.box hnF b1 b2 b3 1 y
  exact c9.to (((hk.trans hkd).setCell (p := ⟨w.heap.size, 0, none⟩) (.inr (Nat.le_refl _)) x).setCell (p := ⟨w.heap.size, 1, none⟩) (.inr (Nat.le_refl _)) y)
set_option maxHeartbeats 4000000 in
set_option maxRecDepth 100000 in
theorem read_any2 {F : Nat → Prop} {w : World} {b N : Nat} {g : Eng} (h : EngAt F w b N g) (hf : Fit g) (hv : ∀ v ∈ g.s, v.ok ∧ St.right v.k v.n = true) {id x : Int} (hid : St.i64p id) (hx : St.i64p x) (hT : TabAt w)
    {i : Nat} (hL : liveAt g id = some i) (hxs : St.has g.s x) (hl : Tx.look (g.t i) x = none) (hfull : ¬ 200 ≤ (g.t i).length) {q : Pl} (hb : behind g.p i (writer (St.at_ g.s x)) = some q) (hN : N < 4000) :
    Calls Tryz.prog 28 #[.pointer (some ⟨b, 0, none⟩), .int .i64 id, .int .i64 x] w fun e w' => e = .returned (.tuple #[.agg #[.int .i64 (read g id x).2.1.1, .int .i64 (read g id x).2.1.2], .int .i64 (read g id x).2.2]) ∧ EngTo F w b (N + 1) (read g id x).1 w' := by
        rw [read_yes hL hxs hl hfull hb]
        obtain ⟨j, rfl⟩ : ∃ j : Nat, x = j := ⟨x.toNat, by have := hxs.1; omega⟩
        obtain ⟨sA, sc, mb, lv, T, X, h⟩ := h
        have hz := (zero_of_info zero_pool_info).1
        have HX0 := Lib.hid (Bx.new w)
        have H := Lib.hid (h.below HX0.out.bel)
        have h0 := Lib.hid h
        have HM := Lib.hid (h.mono (Nat.le_succ N))
        have HF := Lib.hid hf
        have HV := Lib.hid hv
        have HXX := Lib.hid hx
        have HTB := Lib.hid hT
        have HL := Lib.hid hL
        have HI := Lib.hid (liveAt_some hL)
        have HXS := Lib.hid hxs
        have HLK := Lib.hid hl
        obtain ⟨v, hv⟩ : ∃ v, St.at_ g.s (j : Nat) = v := ⟨_, rfl⟩
        have HVA := Lib.hid hv
        have HVO := Lib.hid (show v.ok ∧ St.right v.k v.n = true by rw [← hv]; exact HV.out _ (get_mem HXS.out))
        have HAE := Lib.hid (show Tx.addE (g.t i) ⟨(j : Nat), v.k, v.n, false⟩ = 0 by
          unfold Tx.addE
          have h1 := HF.out.len
          have h2 := HXS.out
          rw [if_pos ⟨h2.1, Int.lt_of_lt_of_le h2.2 (by omega), right_tx HVO.out.2⟩, if_neg hfull])
        obtain ⟨L2, hL2⟩ : ∃ L2, g.t i ++ [⟨(j : Nat), v.k, v.n, false⟩] = L2 := ⟨_, rfl⟩
        have HAL := Lib.hid (show Tx.addL (g.t i) ⟨(j : Nat), v.k, v.n, false⟩ = L2 by unfold Tx.addL; rw [if_pos HAE.out]; exact hL2)
        have HL2 := Lib.hid hL2
        obtain ⟨A, cc, hT, hsl⟩ := H.out.ts i (.inl HI.out.2.1)
        have HT := Lib.hid hT
        have HSL := Lib.hid hsl
        have HTL := Lib.hid (HF.out.tl i (.inl HI.out.2.1))
        rw [hv]
        have HBH := Lib.hid (show behind g.p i (writer v) = some q by rw [← hv]; exact hb)
        have HJ := Lib.hid (show g.s[j]? = some v by
          rw [← hv]
          have h2 := hxs.2
          have h3 : j < g.s.length := by omega
          show g.s[j]? = some (g.s.getD (j : Int).toNat St.zero)
          simp [h3])
        have HM2 := Lib.hid (behind_more hf.ps hb).1
        have HMK := Lib.hid (show St.markL g.s (j : Nat) (i : Nat) = g.s.set j (St.mk (i : Nat) v) by rw [markL_eq hxs HI.out.1, hv]; rfl)
        clear h hf hv hx hL hxs hl hfull hL2 hT hsl hb
        go_enter Tryz.func28, Tryz.ntmps28
        go_wp2_with fail
        refine (who_live H.out HF.out.ps hid HL.out HT.out).mono ?_
        rintro e w1 ⟨rfl, hb⟩
        have HLT1 := Lib.hid (show w.heap.size < w1.heap.size from (HX0.out.below hb).rb.lt)
        have HX1 := Lib.hid ((HX0.out.below hb).alloc (.cells #[.slice A (g.t i).length cc, .int .i64 (i : Nat), .bool (g.c i)] 115))
        have HS1 := Lib.hid (Tx.Blk.new w1 #[.slice A (g.t i).length cc, .int .i64 (i : Nat), .bool (g.c i)] 115)
        have HE1 := Lib.hid (h0.out.below HX1.out.bel)
        have c100 := HE1.out.raw.store_
        clear hb
        go_wp2_with fail
        refine (sget_val HE1.out.st.at_ HXS.out HVA.out).mono ?_
        rintro e w2 ⟨rfl, hb2⟩
        have HR2 := Lib.hid (show Rd w w1.heap.size #[.slice A (g.t i).length cc, .int .i64 (i : Nat), .bool (g.c i)] w2.heap.size #[.int .i64 v.k, .int .i64 v.n, .int .i64 v.ver, .int .i64 v.wr, .int .u64 (v.m : Nat)] (w2.alloc (.cells #[.int .i64 v.k, .int .i64 v.n, .int .i64 v.ver, .int .i64 v.wr, .int .u64 (v.m : Nat)] 141)) from ⟨(HX1.out.below hb2).alloc _, (HS1.out.below hb2).alloc _, Tx.Blk.new _ _ _⟩)
        have HSL1 := Lib.hid (show SlF F w A cc (g.t i) by
          obtain ⟨A', cc', h1, h2⟩ := h0.out.ts i (.inl HI.out.2.1)
          rw [HT.out] at h1
          cases h1
          exact h2)
        have HLT := Lib.hid (show w.heap.size < w1.heap.size ∧ w1.heap.size < w2.heap.size from ⟨HLT1.out, Nat.lt_of_lt_of_le HS1.out.lt hb2.size⟩)
        clear hb2 c100
        have s0c := HR2.out.se.cell 0
        go_wp2_with fail
        refine (look_no (HSL1.out.sl.below HR2.out.bx.bel).at_ (by have := HTL.out; omega) HLK.out).mono ?_
        rintro e w3 ⟨rfl, hb3⟩
        have HR3 := Lib.hid ((HR2.out.below hb3).alloc (.cells #[.int .i64 0, .int .i64 0] 71))
        clear hb3 s0c
        have s0c := HR3.out.se.cell 0
        have v0c := HR3.out.va.cell 0
        have v1c := HR3.out.va.cell 1
        go_wp2_with fail
        refine (Tx.read_any A cc (g.t i) (j : Nat) v.k v.n _ (HSL1.out.sl.below HR3.out.bx.bel).at_ (by have := HTL.out; omega) HXX.out HVO.out.1.1 HVO.out.1.2.1).mono ?_
        rw [HAE.out, HAL.out]
        rintro e w4 ⟨A2, c2, rfl, hv4, hb4, hf4⟩
        have HR4 := Lib.hid (HR3.out.below hb4)
        have HLT3 := Lib.hid HR3.out.se.lt
        have HS5 := Lib.hid (SlF.box (F := fun k => F k ∨ k = w.heap.size) (x := w1.heap.size) (o := 0) (v := .slice A2 L2.length c2) hv4 hf4 (fun q hq => by
          rcases hq with hq | rfl
          · exact Nat.lt_of_lt_of_le (h0.out.lt q hq) HR3.out.bx.bel.size
          · exact HR3.out.bx.rb.lt) HLT3.out)
        clear hv4 hf4 hb4 s0c v0c v1c
        have s0c := HR4.out.se.cell 0
        have s0f := HR4.out.se.free
        have HR5 := Lib.hid (HR4.out.steps (.slice A2 L2.length c2) (by have := HLT.out.1; omega) (by have := HLT.out.2; omega) (by have := HLT.out.1; omega))
        clear HR2 HR3
        go_wp2
        clear s0c s0f
        generalize w4.setCell ⟨w1.heap.size, 0, none⟩ (.slice A2 L2.length c2) = W5 at *
        obtain ⟨ob, hob⟩ : ∃ ob, behind g.p i (writer v) = ob := ⟨_, rfl⟩
        have HOB := Lib.hid hob
        have HLA := Lib.hid (show (writer v).length ≤ 100000 by have := writer_len v; omega)
        clear hob
        go_cut [13, 14] from 60 to 71 (fun u t wx => ∃ z qq, u = .pointer (some ⟨z, 0, none⟩) ∧ t = .bool ob.isSome ∧ (∀ r, ob = some r → qq = r) ∧ PoolAt wx z qq 87 ∧ Rd w w1.heap.size #[.slice A2 L2.length c2, .int .i64 (i : Nat), .bool (g.c i)] w2.heap.size #[.int .i64 v.k, .int .i64 v.n, .int .i64 v.ver, .int .i64 v.wr, .int .u64 (v.m : Nat)] wx ∧ Below W5.heap.size W5 wx)
        case first =>
          have hBl := Since.mk (below_drew W5)
          refine wp_region_noPanic ?_
          refine region_z 15 (Rd w w1.heap.size #[.slice A2 L2.length c2, .int .i64 (i : Nat), .bool (g.c i)] w2.heap.size #[.int .i64 v.k, .int .i64 v.n, .int .i64 v.ver, .int .i64 v.wr, .int .u64 (v.m : Nat)]) 13 11 rfl (by kernel_rfl) (HR5.out.below (below_drew _)) (fun hHeld => ?_)
          refine take_z 0 61 (.pointer (some ⟨b, 0, none⟩)) rfl rfl (by kernel_rfl) (by kernel_rfl) (by kernel_rfl) (by kernel_rfl) (fun _ _ _ h => h) (Or.inl ⟨by rfl, by intro W hW; clear hW; go_simp⟩) hHeld ?_
          simp only [put_laws]
          refine take_z 1 62 (.pointer (some ⟨b, 0, none⟩)) rfl rfl (by kernel_rfl) (by kernel_rfl) (by kernel_rfl) (by kernel_rfl) (fun _ _ _ h => h) (Or.inl ⟨by rfl, by intro W hW; clear hW; go_simp⟩) hHeld ?_
          simp only [put_laws]
          refine take_z 2 63 (.pointer (some ⟨b, 0, none⟩)) rfl rfl (by kernel_rfl) (by kernel_rfl) (by kernel_rfl) (by kernel_rfl) (fun _ _ _ h => h) (Or.inl ⟨by rfl, by intro W hW; clear hW; go_simp⟩) hHeld ?_
          simp only [put_laws]
          refine take_z 3 64 (.agg (poolA g.p)) rfl rfl (by kernel_rfl) (by kernel_rfl) (by kernel_rfl) (by kernel_rfl) (fun _ _ _ h => h) (yields_eng (by rfl) 87 (.tmp 63) rfl b rfl g.p _ (fun W h => (h0.out.below h.bx.bel).raw.range) Tryz.underlying87 rfl pool_info) hHeld ?_
          simp only [put_laws]
          refine take_z 4 65 (.pointer (some ⟨w1.heap.size, 1, none⟩)) rfl rfl (by kernel_rfl) (by kernel_rfl) (by kernel_rfl) (by kernel_rfl) (fun _ _ _ h => h) (Or.inl ⟨by rfl, by intro W hW; clear hW; go_simp⟩) hHeld ?_
          simp only [put_laws]
          refine take_z 5 66 (.int .i64 (i : Nat)) rfl rfl (by kernel_rfl) (by kernel_rfl) (by kernel_rfl) (by kernel_rfl) (fun _ _ _ h => h) (Or.inl ⟨by rfl, by intro W hW; have hc := hW.se.cell 1; clear hW; go_simp⟩) hHeld ?_
          simp only [put_laws]
          refine take_z 6 67 (.agg (#[.int .i64 v.k, .int .i64 v.n, .int .i64 v.ver, .int .i64 v.wr, .int .u64 (v.m : Nat)])) rfl rfl (by kernel_rfl) (by kernel_rfl) (by kernel_rfl) (by kernel_rfl) (fun _ _ _ h => h) (yields_blk (by rfl) 141 (.tmp 10) rfl w2.heap.size rfl 141 #[.int .i64 v.k, .int .i64 v.n, .int .i64 v.ver, .int .i64 v.wr, .int .u64 (v.m : Nat)] _ (fun W h => h.va) Tryz.underlying141 Sx.var_size) hHeld ?_
          simp only [put_laws]
          refine anyZ_ready (rs := [7, 12]) (by kernel_rfl) (by simp) ?_
          refine AllZ.cons rfl (fun K hK => ?_) (AllZ.cons rfl (fun K hK => ?_) AllZ.nil)
          · go_simp
            refine (writer_ints v _ HVO.out.1.2.2.2.1).mono ?_
            rintro e wu ⟨WA, wcc, rfl, hI, hb⟩
            try go_simp
            have hPrev := hHeld
            have hHeld := hHeld.below hb
            have hBl := hBl.below hb
            clear hPrev
            refine hK.out _ _ hHeld (fun hHeld => ?_)
            clear hK K
            refine anyZ_ready (rs := [8, 12]) (by kernel_rfl) (by simp) ?_
            refine AllZ.cons rfl (fun K hK => ?_) (AllZ.cons rfl (fun K hK => ?_) AllZ.nil)
            · go_simp
              refine (behind_val HOB.out _ HF.out.ps HF.out.cnt HI.out.1 hI.at_ HLA.out (HTB.out.below hHeld.bx.bel HTB.out.lt)).mono ?_
              rintro e wz ⟨⟨qq, rfl, hqq⟩, hb⟩
              try go_simp
              have hPrev := hHeld
              have hHeld := hHeld.below hb
              have hBl := hBl.below hb
              have hI := hI.below hb
              clear hPrev
              refine hK.out _ _ hHeld (fun hHeld => ?_)
              clear hK K
              refine take_z 9 60 (.tuple #[.agg (poolA qq), .bool ob.isSome]) rfl rfl (by kernel_rfl) (by kernel_rfl) (by kernel_rfl) (by kernel_rfl) (fun _ _ _ h => h) (Or.inl ⟨by rfl, by intro W hW; clear hW; go_simp⟩) hHeld ?_
              simp only [put_laws]
              refine take_z 10 70 (.agg (poolA qq)) rfl rfl (by kernel_rfl) (by kernel_rfl) (by kernel_rfl) (by kernel_rfl) (fun _ _ _ h => h) (Or.inl ⟨by rfl, by intro W hW; clear hW; go_simp⟩) hHeld ?_
              simp only [put_laws]
              refine take_e 71 (.bool ob.isSome) rfl rfl (by kernel_rfl) (by kernel_rfl) (by kernel_rfl) (fun _ _ _ h => h) (Or.inl ⟨by rfl, by intro W hW; clear hW; go_simp⟩) ?_
              simp only [put_laws]
              refine anyZ_ready (rs := [12]) (by kernel_rfl) (by simp) ?_
              refine AllZ.cons rfl (fun K hK => ?_) AllZ.nil
              go_simp
              have hN : Tx.Blk ((wz.alloc (.cells (poolA zeroP) 87))) (wz.heap.size) (poolA zeroP) 87 := Tx.Blk.new (wz) (poolA zeroP) 87
              have hPrev := hHeld
              have hHeld := hHeld.below (show Below _ _ ((wz.alloc (.cells (poolA zeroP) 87))) from Tx.below_new (wz) (.cells (poolA zeroP) 87))
              have hz1 := hPrev.va.lt
              have hz2 := hPrev.se.lt
              have hz3 := hPrev.bx.rb.lt
              have hz4 := hBl.bel.size
              have hBl := hBl.below (show Below _ _ ((wz.alloc (.cells (poolA zeroP) 87))) from Tx.below_new (wz) (.cells (poolA zeroP) 87))
              have hI := hI.below (show Below _ _ ((wz.alloc (.cells (poolA zeroP) 87))) from Tx.below_new (wz) (.cells (poolA zeroP) 87))
              generalize (wz.alloc (.cells (poolA zeroP) 87)) = wa at *
              clear hPrev
              refine hK.out _ _ hHeld (fun hHeld => ?_)
              clear hK K
              refine anyZ_ready (rs := [13]) (by kernel_rfl) (by simp) ?_
              refine AllZ.last rfl rfl (fun K hK => ?_)
              refine step_store_box rfl 87 (.tmp 13) (.tmp 70) rfl rfl _ zeroP qq 87 rfl rfl hN pool_info ?_
              refine hK.out _ _ ?_
              clear hK K
              refine anyZ_ready (rs := [14]) (by kernel_rfl) (by simp) ?_
              refine AllZ.last rfl rfl (fun K hK => ?_)
              go_simp
              refine hK.out _ _ ?_
              clear hK K
              refine anyZ_done (by kernel_rfl) ?_ _
              refine NoPanic.normal ?_
              go_wp2_with fail
              go_meet
              exact ⟨_, qq, rfl, rfl, hqq, poolAt_put hN, hHeld.row hz3 hz2 hz1 _, setRow_below hBl.bel hz4⟩
            · go_simp
              have hN : Tx.Blk ((wu.alloc (.cells (poolA zeroP) 87))) (wu.heap.size) (poolA zeroP) 87 := Tx.Blk.new (wu) (poolA zeroP) 87
              have hPrev := hHeld
              have hHeld := hHeld.below (show Below _ _ ((wu.alloc (.cells (poolA zeroP) 87))) from Tx.below_new (wu) (.cells (poolA zeroP) 87))
              have hz1 := hPrev.va.lt
              have hz2 := hPrev.se.lt
              have hz3 := hPrev.bx.rb.lt
              have hz4 := hBl.bel.size
              have hBl := hBl.below (show Below _ _ ((wu.alloc (.cells (poolA zeroP) 87))) from Tx.below_new (wu) (.cells (poolA zeroP) 87))
              have hI := hI.below (show Below _ _ ((wu.alloc (.cells (poolA zeroP) 87))) from Tx.below_new (wu) (.cells (poolA zeroP) 87))
              generalize (wu.alloc (.cells (poolA zeroP) 87)) = wa at *
              clear hPrev
              refine hK.out _ _ hHeld (fun hHeld => ?_)
              clear hK K
              refine anyZ_ready (rs := [8]) (by kernel_rfl) (by simp) ?_
              refine AllZ.cons rfl (fun K hK => ?_) AllZ.nil
              go_simp
              refine (behind_val HOB.out _ HF.out.ps HF.out.cnt HI.out.1 hI.at_ HLA.out (HTB.out.below hHeld.bx.bel HTB.out.lt)).mono ?_
              rintro e wz ⟨⟨qq, rfl, hqq⟩, hb⟩
              try go_simp
              have hPrev := hHeld
              have hHeld := hHeld.below hb
              have hBl := hBl.below hb
              have hI := hI.below hb
              have hN := hN.below hb
              clear hPrev
              refine hK.out _ _ hHeld (fun hHeld => ?_)
              clear hK K
              refine take_z 9 60 (.tuple #[.agg (poolA qq), .bool ob.isSome]) rfl rfl (by kernel_rfl) (by kernel_rfl) (by kernel_rfl) (by kernel_rfl) (fun _ _ _ h => h) (Or.inl ⟨by rfl, by intro W hW; clear hW; go_simp⟩) hHeld ?_
              simp only [put_laws]
              refine take_z 10 70 (.agg (poolA qq)) rfl rfl (by kernel_rfl) (by kernel_rfl) (by kernel_rfl) (by kernel_rfl) (fun _ _ _ h => h) (Or.inl ⟨by rfl, by intro W hW; clear hW; go_simp⟩) hHeld ?_
              simp only [put_laws]
              refine take_e 71 (.bool ob.isSome) rfl rfl (by kernel_rfl) (by kernel_rfl) (by kernel_rfl) (fun _ _ _ h => h) (Or.inl ⟨by rfl, by intro W hW; clear hW; go_simp⟩) ?_
              simp only [put_laws]
              refine anyZ_ready (rs := [13]) (by kernel_rfl) (by simp) ?_
              refine AllZ.last rfl rfl (fun K hK => ?_)
              refine step_store_box rfl 87 (.tmp 13) (.tmp 70) rfl rfl _ zeroP qq 87 rfl rfl hN pool_info ?_
              refine hK.out _ _ ?_
              clear hK K
              refine anyZ_ready (rs := [14]) (by kernel_rfl) (by simp) ?_
              refine AllZ.last rfl rfl (fun K hK => ?_)
              go_simp
              refine hK.out _ _ ?_
              clear hK K
              refine anyZ_done (by kernel_rfl) ?_ _
              refine NoPanic.normal ?_
              go_wp2_with fail
              go_meet
              exact ⟨_, qq, rfl, rfl, hqq, poolAt_put hN, hHeld.row hz3 hz2 hz1 _, setRow_below hBl.bel hz4⟩
          · go_simp
            have hN : Tx.Blk ((W5.alloc (.cells (poolA zeroP) 87)).drew) (W5.heap.size) (poolA zeroP) 87 := Tx.Blk.new (W5.drew) (poolA zeroP) 87
            have hPrev := hHeld
            have hHeld := hHeld.below (show Below _ _ ((W5.alloc (.cells (poolA zeroP) 87)).drew) from Tx.below_new (W5.drew) (.cells (poolA zeroP) 87))
            have hz1 := hPrev.va.lt
            have hz2 := hPrev.se.lt
            have hz3 := hPrev.bx.rb.lt
            have hz4 := hBl.bel.size
            have hBl := hBl.below (show Below _ _ ((W5.alloc (.cells (poolA zeroP) 87)).drew) from Tx.below_new (W5.drew) (.cells (poolA zeroP) 87))
            generalize (W5.alloc (.cells (poolA zeroP) 87)).drew = wa at *
            clear hPrev
            refine hK.out _ _ hHeld (fun hHeld => ?_)
            clear hK K
            refine anyZ_ready (rs := [7]) (by kernel_rfl) (by simp) ?_
            refine AllZ.cons rfl (fun K hK => ?_) AllZ.nil
            go_simp
            refine (writer_ints v _ HVO.out.1.2.2.2.1).mono ?_
            rintro e wu ⟨WA, wcc, rfl, hI, hb⟩
            try go_simp
            have hPrev := hHeld
            have hHeld := hHeld.below hb
            have hBl := hBl.below hb
            have hN := hN.below hb
            clear hPrev
            refine hK.out _ _ hHeld (fun hHeld => ?_)
            clear hK K
            refine anyZ_ready (rs := [8]) (by kernel_rfl) (by simp) ?_
            refine AllZ.cons rfl (fun K hK => ?_) AllZ.nil
            go_simp
            refine (behind_val HOB.out _ HF.out.ps HF.out.cnt HI.out.1 hI.at_ HLA.out (HTB.out.below hHeld.bx.bel HTB.out.lt)).mono ?_
            rintro e wz ⟨⟨qq, rfl, hqq⟩, hb⟩
            try go_simp
            have hPrev := hHeld
            have hHeld := hHeld.below hb
            have hBl := hBl.below hb
            have hN := hN.below hb
            have hI := hI.below hb
            clear hPrev
            refine hK.out _ _ hHeld (fun hHeld => ?_)
            clear hK K
            refine take_z 9 60 (.tuple #[.agg (poolA qq), .bool ob.isSome]) rfl rfl (by kernel_rfl) (by kernel_rfl) (by kernel_rfl) (by kernel_rfl) (fun _ _ _ h => h) (Or.inl ⟨by rfl, by intro W hW; clear hW; go_simp⟩) hHeld ?_
            simp only [put_laws]
            refine take_z 10 70 (.agg (poolA qq)) rfl rfl (by kernel_rfl) (by kernel_rfl) (by kernel_rfl) (by kernel_rfl) (fun _ _ _ h => h) (Or.inl ⟨by rfl, by intro W hW; clear hW; go_simp⟩) hHeld ?_
            simp only [put_laws]
            refine take_e 71 (.bool ob.isSome) rfl rfl (by kernel_rfl) (by kernel_rfl) (by kernel_rfl) (fun _ _ _ h => h) (Or.inl ⟨by rfl, by intro W hW; clear hW; go_simp⟩) ?_
            simp only [put_laws]
            refine anyZ_ready (rs := [13]) (by kernel_rfl) (by simp) ?_
            refine AllZ.last rfl rfl (fun K hK => ?_)
            refine step_store_box rfl 87 (.tmp 13) (.tmp 70) rfl rfl _ zeroP qq 87 rfl rfl hN pool_info ?_
            refine hK.out _ _ ?_
            clear hK K
            refine anyZ_ready (rs := [14]) (by kernel_rfl) (by simp) ?_
            refine AllZ.last rfl rfl (fun K hK => ?_)
            go_simp
            refine hK.out _ _ ?_
            clear hK K
            refine anyZ_done (by kernel_rfl) ?_ _
            refine NoPanic.normal ?_
            go_wp2_with fail
            go_meet
            exact ⟨_, qq, rfl, rfl, hqq, poolAt_put hN, hHeld.row hz3 hz2 hz1 _, setRow_below hBl.bel hz4⟩
        case rest =>
          obtain ⟨z, qq, rfl, rfl, hqq, hpz, hrd, hb5⟩ := hcut
          have HB5 := Lib.hid hb5
          clear hb5
          have HPZ := Lib.hid hpz
          have HRD := Lib.hid hrd
          clear hpz hrd
          obtain rfl : some q = ob := HBH.out.symm.trans HOB.out
          obtain rfl := hqq q rfl
          clear hqq
          have HE7 := Lib.hid (h0.out.below HRD.out.bx.bel)
          go_wp2_with (first
            | (refine load_pool rfl 87 (.tmp 13) rfl z qq 87 rfl _ HPZ.out Tryz.underlying87 rfl pool_info ?_)
            | (refine store_eng rfl 87 (.tmp 81) (.tmp 79) rfl rfl b qq rfl rfl HE7.out.raw pool_info ?_))
          have HFE := Lib.hid h0.out.F_eq
          have HW7 := Lib.hid (HE7.out.toW.put_pool qq)
          have HLTB := Lib.hid h0.out.raw.lt
          have HG7 := Lib.hid (show RdG F w w1.heap.size #[.slice A2 L2.length c2, .int .i64 (i : Nat), .bool (g.c i)] w2.heap.size #[.int .i64 v.k, .int .i64 v.n, .int .i64 v.ver, .int .i64 v.wr, .int .u64 (v.m : Nat)] b qq sA sc mb lv g (wc.setCells b 0 (poolA qq).toList) from ⟨(heap_setCells_other b _ (by have := HLTB.out; omega) _ _ _).trans HRD.out.bx.rb, (heap_setCells_other b _ (by have := HLTB.out; have := HLT.out; omega) _ _ _).trans HRD.out.se, (heap_setCells_other b _ (by have := HLTB.out; have := HLT.out; omega) _ _ _).trans HRD.out.va, Kp.setCells (.inl h0.out.Fb) _ _ _ (Kp.of_below HRD.out.bx.bel), HW7.out.raw, HW7.out.st.at_⟩)
          have HS7 := Lib.hid (HS5.out.kp (Kp.setCells (.inl (.inl h0.out.Fb)) (poolA qq).toList 0 _ (Kp.of_below HB5.out)))
          clear HS5 HB5
          generalize wc.setCells b 0 (poolA qq).toList = W7 at *
          have hBl := Since.mk (below_drew W7)
          refine wp_region_noPanic ?_
          refine region_z 15 (RdG F w w1.heap.size #[.slice A2 L2.length c2, .int .i64 (i : Nat), .bool (g.c i)] w2.heap.size #[.int .i64 v.k, .int .i64 v.n, .int .i64 v.ver, .int .i64 v.wr, .int .u64 (v.m : Nat)] b qq sA sc mb lv g) 12 11 rfl (by kernel_rfl) (HG7.out.below (below_drew _)) (fun hHeld => ?_)
          refine take_z 0 83 (.pointer (some ⟨b, 0, none⟩)) rfl rfl (by kernel_rfl) (by kernel_rfl) (by kernel_rfl) (by kernel_rfl) (fun _ _ _ h => h) (Or.inl ⟨by rfl, by intro W hW; clear hW; go_simp⟩) hHeld ?_
          simp only [put_laws]
          refine take_z 1 84 (.pointer (some ⟨b, 0, none⟩)) rfl rfl (by kernel_rfl) (by kernel_rfl) (by kernel_rfl) (by kernel_rfl) (fun _ _ _ h => h) (Or.inl ⟨by rfl, by intro W hW; clear hW; go_simp⟩) hHeld ?_
          simp only [put_laws]
          refine take_z 2 85 (.pointer (some ⟨b, 0, none⟩)) rfl rfl (by kernel_rfl) (by kernel_rfl) (by kernel_rfl) (by kernel_rfl) (fun _ _ _ h => h) (Or.inl ⟨by rfl, by intro W hW; clear hW; go_simp⟩) hHeld ?_
          simp only [put_laws]
          refine take_z 3 86 (.pointer (some ⟨b, 100, none⟩)) rfl rfl (by kernel_rfl) (by kernel_rfl) (by kernel_rfl) (by kernel_rfl) (fun _ _ _ h => h) (Or.inl ⟨by rfl, by intro W hW; clear hW; go_simp⟩) hHeld ?_
          simp only [put_laws]
          refine take_z 4 87 (.slice sA g.s.length sc) rfl rfl (by kernel_rfl) (by kernel_rfl) (by kernel_rfl) (by kernel_rfl) (fun _ _ _ h => h) (Or.inl ⟨by rfl, by intro W hW; have hc := hW.raw.store_; clear hW; go_simp⟩) hHeld ?_
          simp only [put_laws]
          refine take_z 5 88 (.int .i64 (j : Nat)) rfl rfl (by kernel_rfl) (by kernel_rfl) (by kernel_rfl) (by kernel_rfl) (fun _ _ _ h => h) (Or.inl ⟨by rfl, by intro W hW; clear hW; go_simp⟩) hHeld ?_
          simp only [put_laws]
          refine take_z 6 89 (.pointer (some ⟨w1.heap.size, 1, none⟩)) rfl rfl (by kernel_rfl) (by kernel_rfl) (by kernel_rfl) (by kernel_rfl) (fun _ _ _ h => h) (Or.inl ⟨by rfl, by intro W hW; clear hW; go_simp⟩) hHeld ?_
          simp only [put_laws]
          refine take_z 7 90 (.int .i64 (i : Nat)) rfl rfl (by kernel_rfl) (by kernel_rfl) (by kernel_rfl) (by kernel_rfl) (fun _ _ _ h => h) (Or.inl ⟨by rfl, by intro W hW; have hc := hW.se.cell 1; clear hW; go_simp⟩) hHeld ?_
          simp only [put_laws]
          refine anyZ_ready (rs := [8]) (by kernel_rfl) (by simp) ?_
          refine AllZ.cons rfl (fun K hK => ?_) AllZ.nil
          go_simp
          refine (Sx.mark_new sA sc j g.s (i : Nat) v _ hHeld.st (by have := HF.out.len; omega) HJ.out ⟨by omega, by have := HI.out.1; omega⟩).mono ?_
          rintro e wm ⟨A3, c3, rfl, hv3, hb, hf3⟩
          try go_simp
          have hPrev := hHeld
          have hHeld := hHeld.below hb
          have hv3 := VrF.fresh (F := fun k => F k ∨ k = w.heap.size) hv3 hf3 (fun q hq => by
            rcases hq with hq | rfl
            · exact Nat.lt_of_lt_of_le (h0.out.lt q hq) hPrev.kp.size
            · exact hPrev.rb.lt)
          clear hf3
          have hBl := hBl.below hb
          clear hPrev
          refine hK.out _ _ hHeld (fun hHeld => ?_)
          clear hK K
          refine take_z 9 82 (.tuple #[.slice A3 (g.s.set j (St.mk (i : Nat) v)).length c3, .int .i64 0]) rfl rfl (by kernel_rfl) (by kernel_rfl) (by kernel_rfl) (by kernel_rfl) (fun _ _ _ h => h) (Or.inl ⟨by rfl, by intro W hW; clear hW; go_simp⟩) hHeld ?_
          simp only [put_laws]
          refine take_z 10 92 (.slice A3 (g.s.set j (St.mk (i : Nat) v)).length c3) rfl rfl (by kernel_rfl) (by kernel_rfl) (by kernel_rfl) (by kernel_rfl) (fun _ _ _ h => h) (Or.inl ⟨by rfl, by intro W hW; clear hW; go_simp⟩) hHeld ?_
          simp only [put_laws]
          refine take_e 93 (.int .i64 0) rfl rfl (by kernel_rfl) (by kernel_rfl) (by kernel_rfl) (fun _ _ _ h => h) (Or.inl ⟨by rfl, by intro W hW; clear hW; go_simp⟩) ?_
          simp only [put_laws]
          refine anyZ_ready (rs := [12]) (by kernel_rfl) (by simp) ?_
          refine AllZ.last rfl rfl (fun K hK => ?_)
          go_simp
          refine hK.out _ _ ?_
          clear hK K
          refine anyZ_ready (rs := [13]) (by kernel_rfl) (by simp) ?_
          refine AllZ.last rfl rfl (fun K hK => ?_)
          go_simp
          refine hK.out _ _ ?_
          clear hK K
          refine anyZ_ready (rs := [14]) (by kernel_rfl) (by simp) ?_
          refine AllZ.last rfl rfl (fun K hK => ?_)
          have b100 := hHeld.raw.store_
          have bf := hHeld.raw.free
          go_simp
          clear b100 bf
          refine hK.out _ _ ?_
          clear hK K
          refine anyZ_done (by kernel_rfl) ?_ _
          refine NoPanic.normal ?_
          go_wp2_with fail
          have HW8 := Lib.hid ((HW7.out.below hBl.bel).put_store (c := c3) (hv3.foot (F' := Foot b mb lv) (fun k _ hk => .inl (by rw [HFE.out]; exact hk))))
          have HV8 := Lib.hid (hv3.kp ((Kp.refl _ wm).setCell (p := ⟨b, 100, none⟩) (.inl (.inl h0.out.Fb)) (.slice A3 (g.s.set j (St.mk (i : Nat) v)).length c3)))
          have HS8 := Lib.hid ((HS7.out.kp (Kp.of_below hBl.bel)).kp ((Kp.refl _ wm).setCell (p := ⟨b, 100, none⟩) (.inl (.inl h0.out.Fb)) (.slice A3 (g.s.set j (St.mk (i : Nat) v)).length c3)))
          have HRB8 := Lib.hid (hHeld.rb.other (b' := b) (by have := HLTB.out; omega) 100 (.slice A3 (g.s.set j (St.mk (i : Nat) v)).length c3))
          have HSE8 := Lib.hid (hHeld.se.other (b' := b) (by have := HLTB.out; have := HLT.out; omega) 100 (.slice A3 (g.s.set j (St.mk (i : Nat) v)).length c3))
          have HVA8 := Lib.hid (hHeld.va.other (b' := b) (by have := HLTB.out; have := HLT.out; omega) 100 (.slice A3 (g.s.set j (St.mk (i : Nat) v)).length c3))
          have HK8 := Lib.hid (hHeld.kp.setCell (p := ⟨b, 100, none⟩) (.inl h0.out.Fb) (.slice A3 (g.s.set j (St.mk (i : Nat) v)).length c3))
          clear hHeld hv3 hBl HS7 HG7
          have hlen : (g.s.set j (St.mk (i : Nat) v)).length = g.s.length := List.length_set
          rw [hlen] at HW8 HV8 HS8 HRB8 HSE8 HVA8 HK8
          generalize wm.setCell ⟨b, 100, none⟩ (.slice A3 g.s.length c3) = W8 at *
          clear hlen
          have m101 := HW8.out.raw.map_
          have y0 := HSE8.out.cell 0
          have y1 := HSE8.out.cell 1
          have y2 := HSE8.out.cell 2
          have hml := HW8.out.lt mb (.inr (.inl rfl))
          have HML := Lib.hid (h0.out.lt mb h0.out.Fm)
          obtain ⟨sz, hmp⟩ := HW8.out.mp
          obtain ⟨W', hrun, hm, hg⟩ := Tx.MapV.update (W := W8.drew) hmp Tryz.underlying94 (by omega) hid (.agg #[.slice A2 L2.length c2, .int .i64 (i : Nat), .bool (g.c i)])
          have HMP := Lib.hid hm
          have HGR := Lib.hid hg
          have HRB9 := Lib.hid (show Tx.Blk W' w.heap.size _ _ from (hg.block _ HRB8.out.lt (fun e => by have := HML.out; cases e; omega)).trans HRB8.out)
          have HVA9 := Lib.hid (show Tx.Blk W' w2.heap.size _ _ from (hg.block _ HVA8.out.lt (fun e => by have := HML.out; have := HLT.out; cases e; omega)).trans HVA8.out)
          clear hm hg hmp hml hz y0 y1 y2 m101
          refine wp_region_noPanic ?_
          refine region_z 7 (fun W => W = W8.drew) 6 1000 rfl (by kernel_rfl) (rfl) (fun hHeld => ?_)
          refine take_z 0 96 (.pointer (some ⟨b, 0, none⟩)) rfl rfl (by kernel_rfl) (by kernel_rfl) (by kernel_rfl) (by kernel_rfl) (fun _ _ _ h => h) (Or.inl ⟨by rfl, by intro W hW; clear hW; go_simp⟩) hHeld ?_
          simp only [put_laws]
          refine take_z 1 97 (.pointer (some ⟨b, 0, none⟩)) rfl rfl (by kernel_rfl) (by kernel_rfl) (by kernel_rfl) (by kernel_rfl) (fun _ _ _ h => h) (Or.inl ⟨by rfl, by intro W hW; clear hW; go_simp⟩) hHeld ?_
          simp only [put_laws]
          refine take_z 2 98 (.pointer (some ⟨b, 101, none⟩)) rfl rfl (by kernel_rfl) (by kernel_rfl) (by kernel_rfl) (by kernel_rfl) (fun _ _ _ h => h) (Or.inl ⟨by rfl, by intro W hW; clear hW; go_simp⟩) hHeld ?_
          simp only [put_laws]
          refine take_z 3 99 (.map (some mb)) rfl rfl (by kernel_rfl) (by kernel_rfl) (by kernel_rfl) (by kernel_rfl) (fun _ _ _ h => h) (Or.inl ⟨by rfl, by intro W hW; have hc : W.cell? ⟨b, 101, none⟩ = some (.map (some mb)) := (by rw [hW]; exact HW8.out.raw.map_); clear hW; go_simp⟩) hHeld ?_
          simp only [put_laws]
          refine take_z 4 100 (.int .i64 id) rfl rfl (by kernel_rfl) (by kernel_rfl) (by kernel_rfl) (by kernel_rfl) (fun _ _ _ h => h) (Or.inl ⟨by rfl, by intro W hW; clear hW; go_simp⟩) hHeld ?_
          simp only [put_laws]
          refine take_z 5 101 (.agg (#[.slice A2 L2.length c2, .int .i64 (i : Nat), .bool (g.c i)])) rfl rfl (by kernel_rfl) (by kernel_rfl) (by kernel_rfl) (by kernel_rfl) (fun _ _ _ h => h) (yields_blk (by rfl) 115 (.tmp 8) rfl w1.heap.size rfl 115 #[.slice A2 L2.length c2, .int .i64 (i : Nat), .bool (g.c i)] _ (fun W h => by rw [h]; exact HSE8.out.drew) Tryz.underlying115 seat_size) hHeld ?_
          simp only [put_laws]
          refine anyZ_ready (rs := [6]) (by kernel_rfl) (by simp) ?_
          refine AllZ.last rfl rfl (fun K hK => ?_)
          go_simp
          refine hK.out _ _ ?_
          clear hK K
          refine anyZ_done (by kernel_rfl) ?_ _
          refine NoPanic.normal ?_
          have v0 := HVA9.out.cell 0
          have v1 := HVA9.out.cell 1
          have r0 := HRB9.out.cell 0
          have r1 := HRB9.out.cell 1
          have rf := HRB9.out.free
          go_wp2
          refine bodyPost_ret (results_val rfl _ _ w.heap.size 71 _ _ _ rfl rfl ((HRB9.out.set 0 _).set 1 _) Tryz.underlying71 Tx.val_size) rfl ?_
          refine ⟨rfl, ?_⟩
          have hE := HI.out.2.2
          have hm := HMP.out
          exact read_last h0.out HF.out.ps HM2.out HI.out HMK.out HVA.out HL2.out HFE.out HW8.out HV8.out HS8.out HK8.out hm HGR.out _ _
end Go.Proofs.YtfdfiiocccafkaaGreatDoor.En
namespace Go.Proofs.YtfdfiiocccafkaaGreatDoor.En
open Go.RowKit
theorem read_any {F : Nat → Prop} {w : World} {b N : Nat} {g : Eng} (h : EngAt F w b N g) (hf : Fit g) (hv : ∀ v ∈ g.s, v.ok ∧ St.right v.k v.n = true) (hlv : ∀ i, g.p.live.testBit i = true → g.c i = false) {id x : Int} (hid : St.i64p id) (hx : St.i64p x) (hT : TabAt w) (hN : N < 4000) :
    Calls Tryz.prog 28 #[.pointer (some ⟨b, 0, none⟩), .int .i64 id, .int .i64 x] w fun e w' => e = .returned (.tuple #[.agg #[.int .i64 (read g id x).2.1.1, .int .i64 (read g id x).2.1.2], .int .i64 (read g id x).2.2]) ∧ EngTo F w b (N + 1) (read g id x).1 w' := by
  cases hL : liveAt g id with
  | none => exact read_any0 h hf hv hid hx (fun i hi => by rw [hL] at hi; cases hi)
  | some i =>
    by_cases hc : St.has g.s x ∧ Tx.look (g.t i) x = none ∧ ¬ 200 ≤ (g.t i).length
    · obtain ⟨hxs, hl, hfu⟩ := hc
      cases hb : behind g.p i (writer (St.at_ g.s x)) with
      | none => exact read_any1 h hf hv hid hx hT hL hxs hl hfu hb (hlv i (liveAt_some hL).2.1)
      | some q => exact read_any2 h hf hv hid hx hT hL hxs hl hfu hb hN
    · refine read_any0 h hf hv hid hx (fun k hk h1 h2 => ?_)
      rw [hL] at hk
      obtain rfl := Option.some.inj hk
      rcases Nat.lt_or_ge (g.t i).length 200 with h3 | h3
      · exact absurd ⟨h1, h2, by omega⟩ hc
      · exact h3
end Go.Proofs.YtfdfiiocccafkaaGreatDoor.En
