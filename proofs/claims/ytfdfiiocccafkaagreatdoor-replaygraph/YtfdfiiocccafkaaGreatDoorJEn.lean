/-
  What engines that no call made answer.
  The contracts of New and Values.
  Rows of entries in memory; the contracts of the library's Clone at entries and at steps, and of Log.
  The contract of Log.
-/
import Derived.Test.YtfdfiiocccafkaaGreatDoorJEc
import Derived.Test.YtfdfiiocccafkaaGreatDoorJStore
namespace Go.Proofs.YtfdfiiocccafkaaGreatDoor.En
open Go.RowKit
/-- the pointer of an engine that no call made. -/
def Nob (w : World) (p : Value) : Prop := p = .pointer none ∨ ∃ b, p = .pointer (some ⟨b, 0, none⟩) ∧ w.cell? ⟨b, 0, none⟩ = some (.int .i64 0)
theorem Nob.below {w w' : World} {p : Value} (h : Nob w p) (hb : Below w.heap.size w w') : Nob w' p := by
  rcases h with h | ⟨b, h, hc⟩
  · exact .inl h
  · exact .inr ⟨b, h, (hb.cell (Tx.cell_lt hc)).trans hc⟩
theorem made_nob {p : Value} (w : World) (h : Nob w p) : Calls Tryz.prog 36 #[p] w fun e w' => e = .returned (.bool false) ∧ w = w' := by
  rcases h with rfl | ⟨b, rfl, hc⟩
  · exact made_nil w
  · exact made_any b 0 w hc
theorem who_nob {p : Value} (id : Int) (w : World) (h : Nob w p) : Calls Tryz.prog 45 #[p, .int .i64 id] w fun e w' => e = .returned (.tuple #[.agg #[.slice none 0 0, .int .i64 0, .bool false], .int .i64 1]) ∧ Below w.heap.size w w' := by
  rcases h with rfl | ⟨b, rfl, hc⟩
  · exact who_nil id w
  · exact who_zero b id w hc
set_option maxHeartbeats 2000000 in
set_option maxRecDepth 100000 in
theorem begin_nob {p : Value} (w : World) (h : Nob w p) : Calls Tryz.prog 32 #[p] w fun e w' => e = .returned (.tuple #[.int .i64 0, .int .i64 1]) ∧ Below w.heap.size w w' := by
  have hz := (zero_of_info zero_pool_info).1
  have H := Lib.hid h
  clear h
  go_enter Tryz.func32, Tryz.ntmps32
  go_wp2_with (go_at_call 36; refine (made_nob _ H.out).mono ?_; rintro e w' ⟨rfl, rfl⟩)
  go_ret2
  exact ⟨rfl, Below.refl _ _⟩
set_option maxHeartbeats 2000000 in
set_option maxRecDepth 100000 in
theorem read_nob {p : Value} (id x : Int) (w : World) (h : Nob w p) : Calls Tryz.prog 28 #[p, .int .i64 id, .int .i64 x] w fun e w' => e = .returned (.tuple #[.agg #[.int .i64 0, .int .i64 0], .int .i64 1]) ∧ Below w.heap.size w w' := by
  have HX0 := Lib.hid (Bx.new w)
  have H := Lib.hid (h.below HX0.out.bel)
  clear h
  go_enter Tryz.func28, Tryz.ntmps28
  go_wp2_with fail
  refine (who_nob id _ H.out).mono ?_
  rintro e w1 ⟨rfl, hb⟩
  have HX1 := Lib.hid ((HX0.out.below hb).alloc (.cells #[.slice none 0 0, .int .i64 0, .bool false] 115))
  clear hb
  have r0 := HX1.out.rb.cell 0
  have r1 := HX1.out.rb.cell 1
  have rf := HX1.out.rb.free
  go_wp2
  refine bodyPost_ret (results_val rfl _ _ w.heap.size 71 _ _ _ rfl rfl (HX1.out.tell _ _) Tryz.underlying71 Tx.val_size) rfl ?_
  exact ⟨rfl, HX1.out.told _ _⟩
set_option maxHeartbeats 2000000 in
set_option maxRecDepth 100000 in
theorem save_nob {p : Value} (id : Int) (w : World) (h : Nob w p) : Calls Tryz.prog 20 #[p, .int .i64 id] w fun e w' => e = .returned (.tuple #[.int .i64 0, .int .i64 1]) ∧ Below w.heap.size w w' := by
  have H := Lib.hid h
  clear h
  go_enter Tryz.func20, Tryz.ntmps20
  go_wp2_with (go_at_call 45; refine (who_nob id _ H.out).mono ?_; rintro e w1 ⟨rfl, hb⟩)
  have HB := Lib.hid hb
  clear hb
  go_wp2
  go_ret2
  exact ⟨rfl, HB.out.alloc HB.out.size _⟩
set_option maxHeartbeats 2000000 in
set_option maxRecDepth 100000 in
theorem back_nob {p : Value} (id x : Int) (w : World) (h : Nob w p) : Calls Tryz.prog 31 #[p, .int .i64 id, .int .i64 x] w fun e w' => e = .returned (.int .i64 1) ∧ Below w.heap.size w w' := by
  have H := Lib.hid h
  clear h
  go_enter Tryz.func31, Tryz.ntmps31
  go_wp2_with (go_at_call 45; refine (who_nob id _ H.out).mono ?_; rintro e w1 ⟨rfl, hb⟩)
  have HB := Lib.hid hb
  clear hb
  go_wp2
  go_ret
  exact ⟨rfl, HB.out.alloc HB.out.size _⟩
set_option maxHeartbeats 2000000 in
set_option maxRecDepth 100000 in
theorem write_nob {p : Value} (id x k n : Int) (w : World) (h : Nob w p) : Calls Tryz.prog 29 #[p, .int .i64 id, .int .i64 x, .agg #[.int .i64 k, .int .i64 n]] w fun e w' => e = .returned (.int .i64 1) ∧ Below w.heap.size w w' := by
  have HB0 := Lib.hid (Tx.below_new w (.cells #[.int .i64 k, .int .i64 n] 71))
  have H := Lib.hid (h.below HB0.out)
  clear h
  go_enter Tryz.func29, Tryz.ntmps29
  go_wp2_with (go_at_call 45; refine (who_nob id _ H.out).mono ?_; rintro e w1 ⟨rfl, hb⟩)
  have HB := Lib.hid (HB0.out.trans (hb.mono HB0.out.size))
  clear hb
  go_wp2
  go_ret
  exact ⟨rfl, HB.out.alloc HB.out.size _⟩
set_option maxHeartbeats 2000000 in
set_option maxRecDepth 100000 in
theorem commit_nob {p : Value} (id : Int) (w : World) (h : Nob w p) : Calls Tryz.prog 30 #[p, .int .i64 id] w fun e w' => e = .returned (.int .i64 1) ∧ Below w.heap.size w w' := by
  have hz := (zero_of_info zero_pool_info).1
  have H := Lib.hid h
  clear h
  go_enter Tryz.func30, Tryz.ntmps30
  go_wp2_with (go_at_call 45; refine (who_nob id _ H.out).mono ?_; rintro e w1 ⟨rfl, hb⟩)
  have HB := Lib.hid hb
  clear hb
  go_wp2
  go_ret
  exact ⟨rfl, HB.out.alloc HB.out.size _⟩
set_option maxHeartbeats 2000000 in
set_option maxRecDepth 100000 in
theorem abort_nob {p : Value} (id : Int) (w : World) (h : Nob w p) : Calls Tryz.prog 16 #[p, .int .i64 id] w fun e w' => e = .returned (.int .i64 1) ∧ Below w.heap.size w w' := by
  have H := Lib.hid h
  clear h
  go_enter Tryz.func16, Tryz.ntmps16
  go_wp2_with (go_at_call 45; refine (who_nob id _ H.out).mono ?_; rintro e w1 ⟨rfl, hb⟩)
  have HB := Lib.hid hb
  clear hb
  go_wp2
  go_ret
  exact ⟨rfl, HB.out.alloc HB.out.size _⟩
set_option maxHeartbeats 2000000 in
set_option maxRecDepth 100000 in
theorem log_nob {p : Value} (w : World) (h : Nob w p) : Calls Tryz.prog 10 #[p] w fun e w' => e = .returned (.slice none 0 0) ∧ Below w.heap.size w w' := by
  have H := Lib.hid h
  clear h
  go_enter Tryz.func10, Tryz.ntmps10
  go_wp2_with (go_at_call 36; refine (made_nob _ H.out).mono ?_; rintro e w' ⟨rfl, rfl⟩)
  go_ret
  exact ⟨rfl, Below.refl _ _⟩
set_option maxHeartbeats 2000000 in
set_option maxRecDepth 100000 in
theorem values_nob {p : Value} (w : World) (h : Nob w p) : Calls Tryz.prog 14 #[p] w fun e w' => e = .returned (.slice none 0 0) ∧ Below w.heap.size w w' := by
  have H := Lib.hid h
  clear h
  go_enter Tryz.func14, Tryz.ntmps14
  go_wp2_with (go_at_call 36; refine (made_nob _ H.out).mono ?_; rintro e w' ⟨rfl, rfl⟩)
  go_ret
  exact ⟨rfl, Below.refl _ _⟩
set_option maxHeartbeats 2000000 in
set_option maxRecDepth 100000 in
theorem rest_nil (w : World) : Calls Tryz.prog 11 #[.pointer none] w fun e w' => e = .returned (.slice none 0 0) ∧ Below w.heap.size w w' := by
  have HB0 := Lib.hid (Tx.below_new w (.cells #[.pointer none] 24))
  go_enter Tryz.func11, Tryz.ntmps11
  go_wp2_with (go_at_call 36; refine (made_nil _).mono ?_; rintro e w' ⟨rfl, rfl⟩)
  go_ret
  exact ⟨rfl, HB0.out⟩
set_option maxHeartbeats 2000000 in
set_option maxRecDepth 100000 in
theorem rest_zero (b : Nat) (w : World) (h : w.cell? ⟨b, 0, none⟩ = some (.int .i64 0)) : Calls Tryz.prog 11 #[.pointer (some ⟨b, 0, none⟩)] w fun e w' => e = .returned (.slice none 0 0) ∧ Below w.heap.size w w' := by
  have HB0 := Lib.hid (Tx.below_new w (.cells #[.pointer (some ⟨b, 0, none⟩)] 24))
  have HC := Lib.hid ((HB0.out.cell (Tx.cell_lt h)).trans h)
  clear h
  go_enter Tryz.func11, Tryz.ntmps11
  go_wp2_with (go_at_call 36; refine (made_any _ 0 _ HC.out).mono ?_; rintro e w' ⟨rfl, rfl⟩)
  go_ret
  exact ⟨rfl, HB0.out⟩
theorem rest_nob {p : Value} (w : World) (h : Nob w p) : Calls Tryz.prog 11 #[p] w fun e w' => e = .returned (.slice none 0 0) ∧ Below w.heap.size w w' := by
  rcases h with rfl | ⟨b, rfl, hc⟩
  · exact rest_nil w
  · exact rest_zero b w hc
end Go.Proofs.YtfdfiiocccafkaaGreatDoor.En
namespace Go.Proofs.YtfdfiiocccafkaaGreatDoor.En
open Go.RowKit
attribute [local go_sem ↓] Go.wp_at_zero Go.wp_at_succ
def zeroEng : Value := .agg (engA zeroP (.slice none 0 0) (.map none) (.slice none 0 0) 0)
theorem zero_eng_info : (Tryz.prog.info? 96).map (fun i => (i.zero, i.size)) = some (some zeroEng, 104) := by kernel_rfl
def plcE : List (Nat × Nat) := [(0, 100), (100, 1), (101, 1), (102, 1), (103, 1)]
theorem fillE_pool (p q : Pl) (S M L : Value) (n : Int) (rest : List (Nat × Value)) : Instr.fill (fun x => plcE[x]?) (engA p S M L n) ((0, .agg (poolA q)) :: rest) = Instr.fill (fun x => plcE[x]?) (engA q S M L n) rest := by
  rw [fill_step _ _ _ (.agg (poolA q)) _ 0 100 rfl (poolA_size q) (by rw [engA_size]; omega)]
  refine congrArg (fun c => Instr.fill (fun x => plcE[x]?) c rest) ?_
  have e : (Value.agg (poolA q)).cells = poolA q := rfl
  rw [e]
  have h := sets_arr 0 (poolA q) (engA p S M L n) (by rw [poolA_size, engA_size]; omega)
  refine engA_eq (by rw [h.1, engA_size]) (fun i hi => ?_) ?_ ?_ ?_ ?_
  · rw [h.2 i, if_pos (by rw [poolA_size]; omega), Nat.sub_zero, poolA_get q i hi]
  all_goals rw [h.2, if_neg (by rw [poolA_size]; omega)]
  · exact engA_rest _ _ _ _ _ 0
  · exact engA_rest _ _ _ _ _ 1
  · exact engA_rest _ _ _ _ _ 2
  · exact engA_rest _ _ _ _ _ 3
theorem fillE_store (p : Pl) (A : Option Addr) (l c : Nat) (S M L : Value) (n : Int) (rest : List (Nat × Value)) : Instr.fill (fun x => plcE[x]?) (engA p S M L n) ((1, .slice A l c) :: rest) = Instr.fill (fun x => plcE[x]?) (engA p (.slice A l c) M L n) rest := by
  rw [fill_step _ _ _ (.slice A l c) _ 100 1 rfl rfl (by rw [engA_size]; omega)]
  refine congrArg (fun c => Instr.fill (fun x => plcE[x]?) c rest) ?_
  have e : (Value.slice A l c).cells = #[.slice A l c] := rfl
  rw [e]
  have h := sets_arr 100 #[.slice A l c] (engA p S M L n) (by rw [engA_size]; show 100 + 1 ≤ 104; decide)
  have hs : (#[.slice A l c] : Array Value).size = 1 := rfl
  refine engA_eq (by rw [h.1, engA_size]) (fun i hi => ?_) ?_ ?_ ?_ ?_
  · rw [h.2 i, if_neg (by omega), engA_pool _ _ _ _ _ i hi]
  · rw [h.2, if_pos (by rw [hs]; decide)]; rfl
  all_goals rw [h.2, if_neg (by rw [hs]; decide)]
  · exact engA_rest _ _ _ _ _ 1
  · exact engA_rest _ _ _ _ _ 2
  · exact engA_rest _ _ _ _ _ 3
theorem fillE_map (p : Pl) (m : Option Nat) (S M L : Value) (n : Int) (rest : List (Nat × Value)) : Instr.fill (fun x => plcE[x]?) (engA p S M L n) ((2, .map m) :: rest) = Instr.fill (fun x => plcE[x]?) (engA p S (.map m) L n) rest := by
  rw [fill_step _ _ _ (.map m) _ 101 1 rfl rfl (by rw [engA_size]; omega)]
  refine congrArg (fun c => Instr.fill (fun x => plcE[x]?) c rest) ?_
  have e : (Value.map m).cells = #[.map m] := rfl
  rw [e]
  have h := sets_arr 101 #[.map m] (engA p S M L n) (by rw [engA_size]; show 101 + 1 ≤ 104; decide)
  have hs : (#[.map m] : Array Value).size = 1 := rfl
  refine engA_eq (by rw [h.1, engA_size]) (fun i hi => ?_) ?_ ?_ ?_ ?_
  · rw [h.2 i, if_neg (by omega), engA_pool _ _ _ _ _ i hi]
  · rw [h.2, if_neg (by rw [hs]; decide)]; exact engA_rest _ _ _ _ _ 0
  · rw [h.2, if_pos (by rw [hs]; decide)]; rfl
  · rw [h.2, if_neg (by rw [hs]; decide)]; exact engA_rest _ _ _ _ _ 2
  · rw [h.2, if_neg (by rw [hs]; decide)]; exact engA_rest _ _ _ _ _ 3
theorem inf_vars : (Tryz.prog.info? 91).map (·.size) = some 1 := by kernel_rfl
theorem inf_seatm : (Tryz.prog.info? 94).map (·.size) = some 1 := by kernel_rfl
theorem inf_ents : (Tryz.prog.info? 37).map (·.size) = some 1 := by kernel_rfl
theorem buildE_run (parts : Array (Nat × Value)) (cs : Array Value) (w : World) (h : Instr.fill (fun x => plcE[x]?) (engA zeroP (.slice none 0 0) (.map none) (.slice none 0 0) 0) parts.toList = some cs) : (Instr.build 96 parts).run Tryz.prog w = .ok (.agg cs) w := by
  have h1 := fun w => sz w inf_int
  have h2 := fun w => sz w pool_info
  have h3 := fun w => sz w inf_vars
  have h4 := fun w => sz w inf_seatm
  have h5 := fun w => sz w inf_ents
  have hz := (zero_of_info zero_eng_info).1
  have hc : zeroEng.cells = engA zeroP (.slice none 0 0) (.map none) (.slice none 0 0) 0 := rfl
  unfold Instr.build
  simp only [Sem.run_bind, hz, run_underlying Tryz.underlying96, Result.andThen_ok]
  unfold plcE at h
  simp [h1, h2, h3, h4, h5, hc, h]
theorem build_eng (q : Pl) (A : Option Addr) (l c m : Nat) (w : World) : (Instr.build 96 #[(0, .agg (poolA q)), (1, .slice A l c), (2, .map (some m))]).run Tryz.prog w = .ok (.agg (engA q (.slice A l c) (.map (some m)) (.slice none 0 0) 0)) w :=
  buildE_run _ _ _ (by show Instr.fill _ _ [_, _, _] = _; rw [fillE_pool, fillE_store, fillE_map]; rfl)
theorem vars_low {w : World} {A : Option Addr} {L : List St.Vr} (h : Sx.VarsAt w A L) (hl : 0 < L.length) : ∀ ad, A = some ad → ad.block < w.heap.size := by
  intro ad e
  obtain ⟨ad', e', hc⟩ := h.cell hl
  rw [e] at e'
  obtain rfl := Option.some.inj e'
  have h0 := World.block_lt_of_cell? w _ (hc 0 _ (List.getElem?_eq_getElem (by rw [Sx.flat_len]; omega)))
  rw [Tx.add_block] at h0
  exact h0
/-- an engine that was just made. -/
def NewEng (g : Eng) (w : World) (e : Ending) (w' : World) : Prop := ∃ b F, e = .returned (.pointer (some ⟨b, 0, none⟩)) ∧ w.heap.size ≤ b ∧ EngAt F w' b 0 g ∧ (∀ k, F k → w.heap.size ≤ k) ∧ Below w.heap.size w w'
theorem newIsE {vars : Int} (hv : 0 ≤ vars ∧ vars ≤ 64) : St.newL vars = List.replicate vars.toNat St.fresh := by
  unfold St.newL St.newIs
  rw [if_pos (by simp; omega)]
theorem seatF_new (T : Nat → Value) (n vars : Int) (y : Int) : seatF T (new n vars) y = none := by
  unfold seatF
  cases h : slotAt (new n vars) y with
  | none => rfl
  | some i => have := (slotAt_some h).2.1; simp [Po.tk, new, Po.newP] at this
/-- the parts of a new engine lie in memory. -/
theorem new_at {w W : World} {A : Option Addr} {c m b v : Nat} {n : Int} (hl : v ≤ 64) (hW : Below w.heap.size w W) (hs : Sx.VarsAt W A (List.replicate v St.fresh)) (hA : 0 < v → ∀ ad, A = some ad → ad.block ≠ m ∧ ad.block ≠ b) (hm : Tx.MapV W m 0 0 zeroSeat (fun _ => none)) (hmw : w.heap.size ≤ m) (hbw : w.heap.size ≤ b)
    (hb : W.heap[b]? = some (.cells (engA (Po.newP n) (.slice A v c) (.map (some m)) (.slice none 0 0) 0) 96 (0, 0))) : NewEng (new n (v : Nat)) w (.returned (.pointer (some ⟨b, 0, none⟩))) W := by
  have e := newIsE (vars := (v : Nat)) ⟨by omega, by omega⟩
  rw [Int.toNat_natCast] at e
  refine ⟨b, Foot b m (.slice none 0 0), rfl, hbw, ⟨A, c, m, .slice none 0 0, fun _ => .slice none 0 0, [], ?_⟩, ?_, hW⟩
  · have hsv : VrF (Foot b m (.slice none 0 0)) W A (new n (v : Nat)).s := ⟨by show Sx.VarsAt W A (St.newL (v : Nat)); rw [e]; exact hs, fun hl' ad ea hx => by
      have := hA (by have : 0 < (St.newL (v : Nat)).length := hl'; rw [e, List.length_replicate] at this; exact this) ad ea
      rcases hx with h1 | h1 | h1
      · exact this.2 h1
      · exact this.1 h1
      · cases h1⟩
    have hr : RawAt W b (Po.newP n) (.slice A (St.newL (v : Nat)).length c) (.map (some m)) (.slice none 0 0) 0 := ⟨by rw [e, List.length_replicate]; exact hb⟩
    refine ⟨hr, hsv, ⟨0, hm.congr fun y => (seatF_new _ n v y).symm⟩, fun i hi => ?_, World.ownsRow_nil _ _ _ _, rfl, (fun _ hx => by cases hx), fun _ => Iff.rfl⟩
    simp [Po.tk, new, Po.newP] at hi
  · intro k hk
    rcases hk with rfl | rfl | h1
    · exact hbw
    · exact hmw
    · cases h1
set_option maxHeartbeats 4000000 in
set_option maxRecDepth 100000 in
theorem gnew_yes (n : Int) (v : Nat) (w : World) (hn : 1 ≤ n ∧ n ≤ 32) (hv : v ≤ 64) : Calls Tryz.prog 6 #[.int .i64 n, .int .i64 (v : Nat)] w (NewEng (new n (v : Nat)) w) := by
  have hz := (zero_of_info zero_pool_info).1
  have hmm := @run_makeMap Tryz.prog
  have HS := Lib.hid (newIsE (vars := (v : Nat)) ⟨by omega, by omega⟩)
  rw [Int.toNat_natCast] at HS
  go_enter Tryz.func6, Tryz.ntmps6
  go_wp2_with fail
  refine (pnew_yes n _ hn).mono ?_
  rintro e w1 ⟨rfl, hb1⟩
  have HB1 := Lib.hid hb1
  clear hb1
  go_wp2_with (refine let_pool rfl 87 (.tmp 5) (.tmp 11) rfl rfl w1 (Po.newP n) rfl rfl rfl pool_info ?_; intro w2 hp2 hb2; have HP2 := Lib.hid hp2; have HB2 := Lib.hid (HB1.out.trans (hb2.mono HB1.out.size)); clear hp2 hb2)
  refine (Sx.new_made v w2 hv).mono ?_
  rintro e w3 ⟨A, c, rfl, hv3, hb3, hf3⟩
  have HP3 := Lib.hid (HP2.out.below hb3)
  have HB3 := Lib.hid (HB2.out.trans (hb3.mono HB2.out.size))
  have HV3 := Lib.hid hv3
  have HF3 := Lib.hid hf3
  clear hv3 hb3 hf3
  go_wp2_with (first
    | (refine load_pool rfl 87 (.tmp 5) rfl w1.heap.size (Po.newP n) 87 rfl _ HP3.out Tryz.underlying87 rfl pool_info ?_)
    | (refine wpList_build rfl 96 #[(0, .tmp 22), (1, .tmp 23), (2, .tmp 24)] rfl #[(0, .agg (poolA (Po.newP n))), (1, .slice A (List.replicate v St.fresh).length c), (2, .map (some w3.heap.size))] (by simp [Act.eval]) _ (build_eng _ _ _ _ _ _) ?_))
  go_ret
  have hf := HF3.out
  have h2 := HB2.out.size
  have h3 := HB3.out.size
  have hb4 := Tx.below_new w3 (.map #[] 0)
  have hb5 := hb4.alloc hb4.size (.cells (engA (Po.newP n) (.slice A v c) (.map (some w3.heap.size)) (.slice none 0 0) 0) 96)
  have hv := HV3.out
  refine new_at (m := w3.heap.size) (b := w3.heap.size + 1) (A := A) (c := c) ‹v ≤ 64› (HB3.out.trans (hb5.mono HB3.out.size)) (hv.below hb5 (Nat.le_refl _)) (fun h0 ad ea => ?_) ((Tx.mapV_made w3 zeroSeat).alloc _) h3 (by omega) ?_
  · have := vars_low hv (by simpa using h0) ad ea
    omega
  · have := Tx.Blk.new (w3.alloc (.map #[] 0)) (engA (Po.newP n) (.slice A v c) (.map (some w3.heap.size)) (.slice none 0 0) 0) 96
    have hs : (w3.alloc (.map #[] 0)).heap.size = w3.heap.size + 1 := Tx.size_new _ _
    rw [hs] at this
    exact this
set_option maxHeartbeats 2000000 in
set_option maxRecDepth 100000 in
theorem gvals_any {F : Nat → Prop} {w : World} {b N : Nat} {g : Eng} (h : EngAt F w b N g) (hf : Fit g) :
    Calls Tryz.prog 14 #[.pointer (some ⟨b, 0, none⟩)] w fun e w' => ∃ q, e = .returned (.slice (some ⟨q, 0, none⟩) g.s.length g.s.length) ∧ Sx.ValsAt w' w.heap.size q g.s.length (vals g.s) ∧ Below w.heap.size w w' := by
  obtain ⟨sA, sc, mb, lv, T, X, h⟩ := h
  have H := Lib.hid h
  have HF := Lib.hid hf
  have c0 := h.raw.size_
  have c1 := h.raw.store_
  have HC0 := Lib.hid c0
  clear h hf c0
  go_enter Tryz.func14, Tryz.ntmps14
  go_wp2_with fail
  refine (made_yes b g.p.size _ HC0.out HF.out.ps.size.1).mono ?_
  rintro e w1 ⟨rfl, rfl⟩
  go_wp2_with fail
  refine (Sx.values_any sA sc g.s _ H.out.st.at_ (by have := HF.out.len; omega)).mono ?_
  rintro e w2 ⟨q, rfl, hv, hb⟩
  have HV := Lib.hid hv
  have HB := Lib.hid hb
  clear hv hb
  go_wp2
  go_ret
  exact ⟨q, rfl, HV.out, HB.out⟩
end Go.Proofs.YtfdfiiocccafkaaGreatDoor.En
namespace Go.Proofs.YtfdfiiocccafkaaGreatDoor.En
open Go.RowKit
attribute [local go_sem ↓] Go.wp_at_zero Go.wp_at_succ
theorem flatE_set {X : List Xe} {j : Nat} {x x' : Xe} {i : Nat} {u : Value} (h : X[j]? = some x) (hi : i < 5) (hc : (entC x).set i u = entC x') : (flatE X).set (j * 5 + i) u = flatE (X.set j x') := by
  obtain ⟨hl, rfl⟩ := List.getElem?_eq_some_iff.1 h
  have e : X = X.take j ++ (X[j] :: X.drop (j + 1)) := by simp
  have hj : (X.take j).length = j := by simp; omega
  have e2 : flatE X = flatE (X.take j) ++ (entC X[j] ++ flatE (X.drop (j + 1))) := by
    conv => lhs; rw [e]
    rw [flatE_append]; rfl
  rw [e2, List.set_append_right _ _ (by rw [flatE_len, hj]; omega), flatE_len, hj, Nat.add_sub_cancel_left, List.set_append_left _ _ (by simp [entC]; omega), hc]
  rw [List.set_eq_take_append_cons_drop, if_pos hl, flatE_append]
  rfl
/-- a slice reads as these entries. -/
structure XsAt (w : World) (A : Option Addr) (X : List Xe) : Prop where
  cell : 0 < X.length → ∃ ad, A = some ad ∧ ∀ j u, (flatE X)[j]? = some u → w.cell? (ad.add j) = some u
theorem XsAt.below {w w' : World} {A : Option Addr} {X : List Xe} {B : Nat} (h : XsAt w A X) (hb : Below B w w') (hB : w.heap.size ≤ B) : XsAt w' A X :=
  ⟨fun hl => by
    obtain ⟨ad, e, hc⟩ := h.cell hl
    exact ⟨ad, e, fun j u hu => by
      have := hc j u hu
      exact (hb.cell (Nat.lt_of_lt_of_le (Tx.cell_lt this) hB)).trans this⟩⟩
/-- one of them, in the walk's own words. -/
structure At5 (w : World) (p : Addr) (x : Xe) : Prop where
  c0 : w.cell? p = some (.int .i64 x.1.id)
  c1 : w.cell? ⟨p.block, p.off + 1, none⟩ = some (.bool x.1.com)
  c2 : w.cell? ⟨p.block, p.off + 2, none⟩ = some (.bool x.1.ovr)
  c3 : w.cell? ⟨p.block, p.off + 3, none⟩ = some x.2.1
  c4 : w.cell? ⟨p.block, p.off + 4, none⟩ = some x.2.2
theorem XsAt.at_ {w : World} {A : Option Addr} {X : List Xe} (h : XsAt w A X) {j : Nat} {x : Xe} (hx : X[j]? = some x) : ∃ ad, A = some ad ∧ At5 w (ad.add (j * 5)) x := by
  obtain ⟨ad, e, hc⟩ := h.cell (by have := (List.getElem?_eq_some_iff.1 hx).1; omega)
  refine ⟨ad, e, ?_, ?_, ?_, ?_, ?_⟩
  · exact hc _ _ ((flatE_at hx 0 (by decide)).trans rfl)
  · rw [← Tx.add_lit ad (j * 5) 0]; exact hc _ _ ((flatE_at hx 1 (by decide)).trans rfl)
  · rw [← Tx.add_lit ad (j * 5) 1]; exact hc _ _ ((flatE_at hx 2 (by decide)).trans rfl)
  · rw [← Tx.add_lit ad (j * 5) 2]; exact hc _ _ ((flatE_at hx 3 (by decide)).trans rfl)
  · rw [← Tx.add_lit ad (j * 5) 3]; exact hc _ _ ((flatE_at hx 4 (by decide)).trans rfl)
/-- a row of the call's own reads as these entries. -/
def OwnX (w : World) (base : Nat) (v : Value) (X : List Xe) : Prop := w.ownsRow base 79 5 v X.length (flatE X)
theorem OwnX.slice {w : World} {base : Nat} {v : Value} {X : List Xe} (h : OwnX w base v X) : ∃ A c, v = .slice A X.length c ∧ XsAt w A X ∧ ∀ ad, A = some ad → base ≤ ad.block ∧ ad.block < w.heap.size ∧ v.ownBlock = some ad.block := by
  rcases h.2 with ⟨rfl, h0⟩ | ⟨g, cap, cur, rfl, hb, hg, hn, hm, hs, ht⟩
  · exact ⟨none, 0, by rw [h0], ⟨fun hl => by omega⟩, fun ad e => by cases e⟩
  · exact ⟨_, cap, rfl, ⟨fun _ => ⟨_, rfl, World.ownsRow.cells h rfl⟩⟩, fun ad e => by cases e; exact ⟨hb, (Array.getElem?_eq_some_iff.1 hg).1, rfl⟩⟩
theorem OwnX.below {w w' : World} {base : Nat} {v : Value} {X : List Xe} {B : Nat} (h : OwnX w base v X) (hb : Below B w w') (hB : w.heap.size ≤ B) : OwnX w' base v X :=
  World.ownsRow.kept (row := none) h ⟨hb.os, hb.tape, hb.output, hb.size, fun k hk _ => hb.block k (by omega)⟩ (by cases hv : v.ownBlock <;> simp)
theorem OwnX.mono {w : World} {a b : Nat} {v : Value} {X : List Xe} (h : OwnX w b v X) (hab : a ≤ b) : OwnX w a v X := by
  refine ⟨h.1, ?_⟩
  rcases h.2 with h1 | ⟨g, cap, cur, e, hb, hr⟩
  · exact .inl h1
  · exact .inr ⟨g, cap, cur, e, by omega, hr⟩
theorem OwnX.get {w : World} {base q n cap : Nat} {X : List Xe} (h : OwnX w base (.slice (some ⟨q, 0, none⟩) n cap) X) {j : Nat} {x : Xe} (hx : X[j]? = some x) (i : Nat) (hi : i < 5) : w.cell? ⟨q, j * 5 + i, none⟩ = (entC x)[i]? := by
  have hj : j < X.length := (List.getElem?_eq_some_iff.1 hx).1
  rcases h.2 with ⟨e, _⟩ | ⟨g, c, cur, e, _⟩
  · injection e with e; cases e
  · obtain ⟨e1, e2, _⟩ := Value.slice.inj e
    rw [e2] at h
    rw [World.ownsRow.cellAt h _ (by omega), flatE_at hx i hi]
theorem OwnX.free {w : World} {base q n cap : Nat} {X : List Xe} (h : OwnX w base (.slice (some ⟨q, 0, none⟩) n cap) X) (i : Nat) : w.frozen? ⟨q, i, none⟩ = false := by
  rcases h.2 with ⟨e, _⟩ | ⟨g, c, cur, e, _⟩
  · injection e with e; cases e
  · obtain ⟨e1, e2, _⟩ := Value.slice.inj e
    rw [e2] at h
    exact World.ownsRow.frozenAt h i
theorem OwnX.put {w : World} {base q n cap : Nat} {X : List Xe} (h : OwnX w base (.slice (some ⟨q, 0, none⟩) n cap) X) {j : Nat} {x x' : Xe} (hx : X[j]? = some x) (i : Nat) (hi : i < 5) (u : Value) (hc : (entC x).set i u = entC x') :
    OwnX (w.setCell ⟨q, j * 5 + i, none⟩ u) base (.slice (some ⟨q, 0, none⟩) n cap) (X.set j x') := by
  rcases h.2 with ⟨e, _⟩ | ⟨g, c, cur, e, _⟩
  · injection e with e; cases e
  · obtain ⟨e1, e2, _⟩ := Value.slice.inj e
    unfold OwnX at h ⊢
    rw [e2] at h ⊢
    rw [← flatE_set hx hi hc, List.length_set]
    exact (World.ownsRow.stored h _ u).1
theorem run_append_ents (ty : TypeId) {W : World} {base : Nat} {v : Value} {X : List Xe} (hown : OwnX W base v X) {A : Option Addr} (c : Nat) {Y : List Xe} (hY : XsAt W A Y) (one : ∀ u ∈ flatE Y, u.oneCell' = true) (hlen : X.length + Y.length ≤ 400000) (hbase : base ≤ W.heap.size) :
    ∃ v' w', (Builtin.append_ #[37, 37] ty #[v, .slice A Y.length c]).run Tryz.prog W = .ok v' w' ∧ OwnX w' base v' (X ++ Y) ∧ W.grownBy w' v.ownBlock := by
  obtain ⟨i, hi, hz, hs, hb⟩ := info_parts ent_info
  rcases A with _ | ad
  · have hm : Y = [] := by
      rcases Y with _ | ⟨x, Y⟩
      · rfl
      · obtain ⟨ad, h, _⟩ := hY.cell (by simp)
        cases h
    subst hm
    have hr : (Builtin.append_ #[37, 37] ty #[v, .slice none 0 c]).run Tryz.prog W = .ok v W := by
      rcases hown.2 with ⟨rfl, h0⟩ | ⟨g, cap, cur, rfl, _, _, hnc, _⟩
      · simp [Builtin.append_, run_underlying Tryz.underlying37, sizeOf, typeInfo, hi, Builtin.lenOf, Builtin.firstCells]
      · simp [Builtin.append_, run_underlying Tryz.underlying37, sizeOf, typeInfo, hi, Builtin.lenOf, Builtin.firstCells, hnc, storeCells]
    exact ⟨v, W, hr, by simpa using hown, ⟨rfl, rfl, rfl, Nat.le_refl _, fun _ _ _ => rfl⟩⟩
  · have hc : ∀ j u, (flatE Y)[j]? = some u → W.cell? (ad.add j) = some u := by
      intro j u hu
      rcases Y with _ | ⟨x, Y⟩
      · simp [flatE] at hu
      · obtain ⟨ad', h, hc⟩ := hY.cell (by simp)
        have h := Option.some.inj h
        subst h
        exact hc j u hu
    obtain ⟨v', w', hr, h2, h3, _⟩ := run_append_own (P := Tryz.prog) W base 37 ty 79 i _ 5 64 Tryz.underlying37 hi hz hs hb rfl (by decide) v X.length (flatE X) hown ad Y.length c (flatE Y) (flatE_len Y) hc one (by unfold maxLen; omega) (by omega) hbase
    refine ⟨v', w', hr, ?_, h3⟩
    unfold OwnX
    rw [List.length_append, flatE_append]
    exact h2
theorem append_ents {ops : Array Oper} {rest : List Oper} {o : Oper} {a : Go.Act} {Q : Exit → Go.Act → World → Prop} (hgd : o.guard = none) (s x : Operand)
    (ho : o.op = .call { callee := .builtin .append, args := #[s, x], argTypes := #[37, 37] }) {W : World} {base : Nat} {v : Value} {X : List Xe} (hs : a.eval s = v) (hown : OwnX W base v X)
    (A : Option Addr) (c : Nat) (Y : List Xe) {m : Nat} (hm : Y.length = m) (hx : a.eval x = .slice A m c) (hY : XsAt W A Y) (one : ∀ u ∈ flatE Y, u.oneCell' = true) (hlen : X.length + Y.length ≤ 400000) (hbase : base ≤ W.heap.size)
    (h : ∀ v' w', OwnX w' base v' (X ++ Y) → W.grownBy w' v.ownBlock → wpList Tryz.prog ops Q rest (a.put o.dst v') w') : wpList Tryz.prog ops Q (o :: rest) a W := by
  subst hm
  obtain ⟨v', w', hr, h2, h3⟩ := run_append_ents o.type hown c hY one hlen hbase
  refine wpList_plain hgd fun _ hK => ?_
  unfold Oper.wp execOp
  simp only [ho, resolve, invoke, builtin, Sem.run_bind, Sem.run_pure, Result.andThen_ok, List.map_toArray, List.map_cons, List.map_nil, hs, hx, hr]
  exact hK _ _ (h v' w' h2 h3)
theorem ownX_empty (w : World) {g : Nat} (hg : w.heap.size = g) {base : Nat} (hb : base ≤ w.heap.size) : OwnX (w.alloc (.cells #[] 79)) base (.slice (some ⟨g, 0, none⟩) 0 0) [] := by
  subst hg
  exact World.ownsRow_lit w #[] 0 hb (by unfold maxLen; omega) rfl
theorem grown_below {w w' : World} {base : Nat} {v : Value} {X : List Xe} (h : OwnX w base v X) (hg : w.grownBy w' v.ownBlock) (hb : base ≤ w.heap.size) : Below base w w' :=
  (Below.refl _ _).grown hg hb (fun k hk => (World.ownsRow.lt h k hk).1)
theorem eq_nilE (A : Option Addr) (n c : Nat) (W : World) : (binOp .eql 37 (.slice A n c) (.slice none 0 0)).run Tryz.prog W = .ok (.bool A.isNone) W := by
  simp [binOp, run_equal_slice_nil W 37 79 A n c Tryz.underlying37]
set_option maxHeartbeats 1000000 in
set_option maxRecDepth 100000 in
theorem eclone_any {lv : Value} {X : List Xe} (w : World) (h : OwnX w 0 lv X) (one : ∀ u ∈ flatE X, u.oneCell' = true) (hl : X.length ≤ 200000) :
    Calls Tryz.prog 37 #[lv] w fun e w' => ∃ v, e = .returned v ∧ OwnX w' w.heap.size v X ∧ Below w.heap.size w w' := by
  obtain ⟨A, c, rfl, hX, _⟩ := h.slice
  have HX := Lib.hid hX
  have H1 := Lib.hid one
  have hnil := fun W => eq_nilE A X.length c W
  have HLN := Lib.hid (show A = none → X = [] from fun e => by
    subst e
    rcases X with _ | ⟨x, X⟩
    · rfl
    · obtain ⟨ad, h, _⟩ := hX.cell (by simp)
      cases h)
  clear h hX one
  rcases A with _ | ad
  · obtain rfl := HLN.out rfl
    clear hnil
    have hnil := fun W => eq_nilE none 0 c W
    go_enter Tryz.func37, Tryz.ntmps37
    go_wp2
    go_ret
    exact ⟨_, rfl, World.ownsRow_nil _ _ _ _, Below.refl _ _⟩
  · go_enter Tryz.func37, Tryz.ntmps37
    go_wp2_with (at_builtin; refine append_ents rfl _ _ rfl rfl (ownX_empty w rfl (Nat.le_refl _)) _ _ X rfl rfl (HX.out.below (Tx.below_new _ _) (Nat.le_refl _)) H1.out ?c1 ?c2 ?_)
    case c1 => simp; omega
    case c2 => simp
    intro v' w1 ho1 hg1
    have HO1 := Lib.hid ho1
    have HB1 := Lib.hid ((Tx.below_new w (.cells #[] 79)).trans (grown_below (ownX_empty w rfl (Nat.le_refl _)) hg1 (by simp)))
    clear ho1 hg1
    go_wp2
    go_ret
    exact ⟨_, rfl, HO1.out, HB1.out⟩
set_option maxHeartbeats 1000000 in
set_option maxRecDepth 100000 in
theorem sclone_any (A : Option Addr) (c : Nat) (L : List Tx.Sp) (w : World) (h : Tx.SlAt w A c L) (hl : L.length ≤ 300) :
    Calls Tryz.prog 38 #[.slice A L.length c] w (Tx.SlPost L w) := by
  have H := Lib.hid h.at_
  clear h
  have hnil := fun W => Tx.eq_nil Tx.lvt A L.length c W
  rcases A with _ | ad
  · obtain rfl := H.out.nil_
    clear hnil
    have hnil := fun W => Tx.eq_nil Tx.lvt none 0 c W
    go_enter Tryz.func38, Tryz.ntmps38
    go_wp2
    go_ret
    exact ⟨none, 0, rfl, (SlF.nil (fun _ => False) _).sl, Below.refl _ _, fun ad e => by cases e⟩
  · go_enter Tryz.func38, Tryz.ntmps38
    go_wp2_with (at_builtin; refine Tx.append_vars Tx.lvt rfl _ _ rfl rfl (Tx.own_empty w 76 rfl (Nat.le_refl _)) _ _ L rfl rfl (H.out.alloc _) ?c1 ?c2 ?_)
    case c1 => simp; omega
    case c2 => simp
    intro v' w1 ho1 hb1 hs1
    have HO1 := Lib.hid ho1
    have HB1 := Lib.hid ((Tx.below_new w (.cells #[] 76)).trans hb1)
    clear ho1 hb1
    go_wp2
    obtain ⟨T, d, rfl, hv, hfr⟩ := Tx.OwnVars.slf HO1.out
    go_ret
    exact ⟨_, _, rfl, hv, HB1.out, hfr⟩
end Go.Proofs.YtfdfiiocccafkaaGreatDoor.En
namespace Go.Proofs.YtfdfiiocccafkaaGreatDoor.En
open Go.RowKit
attribute [local go_sem ↓] Go.wp_at_zero Go.wp_at_succ
theorem OwnX.some_ {w : World} {base n c : Nat} {A : Option Addr} {X : List Xe} (h : OwnX w base (.slice A n c) X) (hl : 0 < X.length) : ∃ q, A = some ⟨q, 0, none⟩ ∧ base ≤ q ∧ q < w.heap.size := by
  rcases h.2 with ⟨e, h0⟩ | ⟨g, cap, cur, e, hb, hg, _⟩
  · omega
  · obtain ⟨e1, _, _⟩ := Value.slice.inj e
    exact ⟨g, e1, hb, (Array.getElem?_eq_some_iff.1 hg).1⟩
/-- entries that were told: a row of the call's own, and slices that lie off it. -/
structure Told (w : World) (base : Nat) (v : Value) (L : List Ent) : Prop where
  ex : ∃ X : List Xe, OwnX w base v X ∧ X.map (·.1) = L ∧ ∀ x ∈ X, EntAt (fun k => v.ownBlock = some k ∨ k < base) w x
def LogRel (X : List Xe) (v : Value) (w : World) (i : Value) (wr : World) : Prop :=
  ∃ (k : Nat) (Y : List Xe), k ≤ X.length ∧ i = .int .i64 k ∧ Y.length = k ∧ Y.map (·.1) = (X.take k).map (·.1) ∧ (∀ y ∈ Y, EntAt (fun k => v.ownBlock = some k ∨ k < w.heap.size) wr y) ∧ OwnX wr w.heap.size v (Y ++ X.drop k) ∧ Below w.heap.size w wr
theorem log_next {X Y : List Xe} {k : Nat} {x x' : Xe} (hx : X[k]? = some x) (hY : Y.length = k) : (Y ++ X.drop k)[k]? = some x ∧ (Y ++ X.drop k).set k x' = (Y ++ [x']) ++ X.drop (k + 1) := by
  obtain ⟨hl, rfl⟩ := List.getElem?_eq_some_iff.1 hx
  constructor
  · rw [List.getElem?_append_right (by omega), hY, Nat.sub_self, List.getElem?_drop, Nat.add_zero]; exact hx
  · rw [List.set_append_right _ _ (by omega), hY, Nat.sub_self, List.drop_eq_getElem_cons hl, List.set_cons_zero, List.append_assoc]; rfl
theorem log_fst {X Y : List Xe} {k : Nat} {x x' : Xe} (hx : X[k]? = some x) (hY : Y.map (·.1) = (X.take k).map (·.1)) (e : x'.1 = x.1) : (Y ++ [x']).map (·.1) = (X.take (k + 1)).map (·.1) := by
  rw [St.take_step hx, List.map_append, List.map_append, hY]
  simp [e]
theorem SlF.off_lt {w w' : World} {A : Option Addr} {c q B : Nat} {L : List Tx.Sp} (h : Tx.SlAt w' A c L) (hf : Tx.Fr w.heap.size A) (hq : q < w.heap.size) (hB : B ≤ w.heap.size) : SlF (fun k => k = q ∨ k < B) w' A c L :=
  SlF.fresh h hf (fun k e => by
    rcases e with rfl | e
    · exact hq
    · omega)
set_option maxHeartbeats 4000000 in
set_option maxRecDepth 100000 in
theorem log_any {F : Nat → Prop} {w : World} {b N : Nat} {g : Eng} {K : Int} (h : EngAt F w b N g) (hi : Inv K g) (hK : K ≤ 100000) :
    Calls Tryz.prog 10 #[.pointer (some ⟨b, 0, none⟩)] w fun e w' => ∃ v, e = .returned v ∧ Told w' w.heap.size v g.log ∧ Below w.heap.size w w' := by
  obtain ⟨sA, sc, mb, lv, T, X, h⟩ := h
  have H := Lib.hid h
  have HI := Lib.hid hi
  have HF := Lib.hid (hi.fit hK)
  have HC0 := Lib.hid h.raw.size_
  have c102 := h.raw.log_
  have hXL : X.length ≤ 200000 := by have := (hi.fit hK).log; rw [← h.xs, List.length_map] at this; omega
  have HXL := Lib.hid hXL
  have HXE := Lib.hid h.xe
  clear h hi hXL
  go_enter Tryz.func10, Tryz.ntmps10
  go_wp2_with fail
  refine (made_yes b g.p.size _ HC0.out HF.out.ps.size.1).mono ?_
  rintro e w0 ⟨rfl, rfl⟩
  go_wp2_with fail
  refine (eclone_any w H.out.lg (flatE_one H.out.xe) HXL.out).mono ?_
  rintro e w1 ⟨v, rfl, ho, hb⟩
  obtain ⟨A, c, rfl, _, _⟩ := ho.slice
  have HO := Lib.hid ho
  have HB := Lib.hid hb
  have hn : (X.length : Int) ≤ 9223372036854775807 := by have := HXL.out; omega
  clear ho hb c102
  go_wp2
  go_loopw [15] (LogRel X (.slice A X.length c) w) (fun i _ => X.length - (intOf i).toNat)
  case atStart => exact ⟨0, [], Nat.zero_le _, rfl, rfl, rfl, (fun y hy => absurd hy List.not_mem_nil), HO.out, HB.out⟩
  case round =>
    obtain ⟨k, Y, hk, rfl, hYl, hYm, hYe, ho, hb⟩ := hrel
    have HO := Lib.hid ho
    have HB := Lib.hid hb
    have HYL := Lib.hid hYl
    have HYM := Lib.hid hYm
    have HYE := Lib.hid hYe
    clear ho hb hYl hYm hYe
    by_cases hlt : k < X.length
    · obtain ⟨q, rfl, hq, hq1⟩ := HO.out.some_ (by rw [List.length_append, HYL.out, List.length_drop]; omega)
      have hx := List.getElem?_eq_getElem hlt
      have hmem := List.getElem_mem hlt
      generalize X[k] = x at hx hmem
      obtain ⟨x, a3, a4⟩ := x
      have HX := Lib.hid hx
      obtain ⟨⟨A1, c1, e3, h1⟩, ⟨A2, c2, e4, h2⟩⟩ := HXE.out _ hmem
      dsimp only at e3 e4
      subst e3; subst e4
      have H1 := Lib.hid h1
      have H2 := Lib.hid h2
      have HEL := Lib.hid (show x.rd.length ≤ 64 ∧ x.wr.length ≤ 64 from by
        have hm : x ∈ g.log := by rw [← H.out.xs]; exact List.mem_map.2 ⟨_, hmem, rfl⟩
        have := (HI.out.ent x hm).1
        exact ⟨this.rl, this.wl⟩)
      have HQ := Lib.hid hq
      have HQ1 := Lib.hid hq1
      have hx0 := (log_next (x' := (x, .slice A1 x.rd.length c1, .slice A2 x.wr.length c2)) HX.out HYL.out).1
      have HX0 := Lib.hid hx0
      have c3 := HO.out.get hx0 3 (by decide)
      simp only [entC, List.getElem?_cons_succ, List.getElem?_cons_zero] at c3
      have f3 := HO.out.free
      have hlt' : (k : Int) < (X.length : Int) := by omega
      clear hx hmem h1 h2 hx0 hq hq1
      go_wp2_with fail
      refine (sclone_any A1 c1 x.rd _ (H1.out.sl.below HB.out) (by have := HEL.out; omega)).mono ?_
      rintro e w2 ⟨T1, d1, rfl, hv1, hb1, hf1⟩
      have HQ2 := Lib.hid (SlF.off_lt hv1 hf1 HQ1.out HB.out.size)
      have HO1 := Lib.hid (HO.out.below hb1 (Nat.le_refl _))
      have HB1 := Lib.hid (HB.out.trans (hb1.mono HB.out.size))
      have HYE1 := Lib.hid (show ∀ y ∈ Y, EntAt (fun k => k = q ∨ k < w.heap.size) w2 y from fun y hy => ((HYE.out y hy).foot (fun k _ e => by
        rcases e with rfl | e
        · exact .inl rfl
        · exact .inr e)).kp (.of_below hb1))
      have HQ3 := Lib.hid (show q < w2.heap.size from Nat.lt_of_lt_of_le HQ1.out hb1.size)
      clear hv1 hb1 hf1 c3 f3 HYE HQ1
      have c3 := HO1.out.get HX0.out 3 (by decide)
      simp only [entC, List.getElem?_cons_succ, List.getElem?_cons_zero] at c3
      have f3 := HO1.out.free
      have ho2 := HO1.out.put HX0.out (x' := (x, .slice T1 x.rd.length d1, .slice A2 x.wr.length c2)) 3 (by decide) (.slice T1 x.rd.length d1) rfl
      have HO2 := Lib.hid ho2
      have HX2 := Lib.hid (show ((Y ++ X.drop k).set k (x, .slice T1 x.rd.length d1, .slice A2 x.wr.length c2))[k]? = some (x, .slice T1 x.rd.length d1, .slice A2 x.wr.length c2) from List.getElem?_set_self ((List.getElem?_eq_some_iff.1 HX0.out).1))
      have c4 := ho2.get HX2.out 4 (by decide)
      simp only [entC, List.getElem?_cons_succ, List.getElem?_cons_zero] at c4
      have HB2 := Lib.hid (HB1.out.setCell (p := ⟨q, k * 5 + 3, none⟩) HQ.out (.slice T1 x.rd.length d1))
      have HK2 := Lib.hid ((Kp.refl (fun k => k = q ∨ k < w.heap.size) w2).setCell (p := ⟨q, k * 5 + 3, none⟩) (.inl (.inl rfl)) (.slice T1 x.rd.length d1))
      have HS2 := Lib.hid (show q < (w2.setCell ⟨q, k * 5 + 3, none⟩ (.slice T1 x.rd.length d1)).heap.size from Nat.lt_of_lt_of_le HQ3.out HK2.out.size)
      clear ho2
      go_wp2_with fail
      clear c3 f3 c4
      generalize w2.setCell ⟨q, k * 5 + 3, none⟩ (.slice T1 x.rd.length d1) = W2 at *
      refine (sclone_any A2 c2 x.wr _ (H2.out.sl.below HB2.out) (by have := HEL.out; omega)).mono ?_
      rintro e w3 ⟨T2, d2, rfl, hv2, hb2, hf2⟩
      have HQ4 := Lib.hid (SlF.off_lt hv2 hf2 HS2.out HB2.out.size)
      have HO3 := Lib.hid (HO2.out.below hb2 (Nat.le_refl _))
      have HB3 := Lib.hid (HB2.out.trans (hb2.mono HB2.out.size))
      have HK3 := Lib.hid (HK2.out.below hb2)
      clear hv2 hb2 hf2
      have c4 := HO3.out.get HX2.out 4 (by decide)
      simp only [entC, List.getElem?_cons_succ, List.getElem?_cons_zero] at c4
      have f4 := HO3.out.free
      have ho4 := HO3.out.put HX2.out (x' := (x, .slice T1 x.rd.length d1, .slice T2 x.wr.length d2)) 4 (by decide) (.slice T2 x.wr.length d2) rfl
      rw [List.set_set, (log_next (x' := (x, .slice T1 x.rd.length d1, .slice T2 x.wr.length d2)) HX.out HYL.out).2] at ho4
      have HO4 := Lib.hid ho4
      have HB4 := Lib.hid (HB3.out.setCell (p := ⟨q, k * 5 + 4, none⟩) HQ.out (.slice T2 x.wr.length d2))
      have HK4 := Lib.hid ((Kp.refl (fun k => k = q ∨ k < w.heap.size) w3).setCell (p := ⟨q, k * 5 + 4, none⟩) (.inl (.inl rfl)) (.slice T2 x.wr.length d2))
      clear ho4
      go_wp2
      refine ⟨⟨k + 1, Y ++ [(x, .slice T1 x.rd.length d1, .slice T2 x.wr.length d2)], by omega, by go_num, by simp [HYL.out], log_fst HX.out HYM.out rfl, fun y hy => ?_, HO4.out, HB4.out⟩, by simp [intOf]; omega⟩
      have hF : ∀ k : Nat, (Value.slice (some ⟨q, 0, none⟩) X.length c).ownBlock = some k ∨ k < w.heap.size → k = q ∨ k < w.heap.size := fun k e => by
        rcases e with e | e
        · have : some q = some k := e
          exact .inl (Option.some.inj this).symm
        · exact .inr e
      rcases List.mem_append.1 hy with hy | hy
      · exact (((HYE1.out y hy).kp HK3.out).kp HK4.out).foot (fun k _ e => hF k e)
      · have hy := List.mem_singleton.1 hy
        subst hy
        exact EntAt.foot ⟨⟨T1, d1, rfl, (HQ2.out.kp HK3.out).kp HK4.out⟩, ⟨T2, d2, rfl, HQ4.out.kp HK4.out⟩⟩ (fun k _ e => hF k e)
    · obtain rfl : k = X.length := by omega
      go_wp2
      go_ret
      have ho := HO.out
      have hm := HYM.out
      rw [List.take_length] at hm
      rw [List.drop_length, List.append_nil] at ho
      exact ⟨_, rfl, ⟨⟨Y, ho, by rw [hm]; exact H.out.xs, HYE.out⟩⟩, HB.out⟩
end Go.Proofs.YtfdfiiocccafkaaGreatDoor.En
