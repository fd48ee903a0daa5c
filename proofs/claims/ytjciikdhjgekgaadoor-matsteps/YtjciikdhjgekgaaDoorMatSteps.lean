/-
  The walk of MatSteps.
-/
import Derived.Test.YtjciikdhjgekgaaDoorMatLaw
import Derived.Deep.AppendLies
namespace Go.Proofs.YtjciikdhjgekgaaDoor
open Go.RowKit
theorem IntsAt.below {w w' : World} {A : Option Addr} {n : Nat} {zs : List Int} (h : IntsAt w A n zs) (hb : Below w.heap.size w w') : IntsAt w' A n zs :=
  h.keep fun ad e j hj => by
    obtain ⟨ad', z, e', _, hc, _⟩ := h.at_ hj
    rw [e] at e'
    injection e' with e'
    subst e'
    exact hb.cell (cell_lt hc)
theorem own_ints {w : World} {base : Nat} {A : Option Addr} {n c : Nat} {l : List Nat} (h : w.ownsRow base 3 1 (.slice A n c) n (vals l)) (hl : ∀ k ∈ l, k < 64) : IntsAt w A n (l.map fun (k : Nat) => (k : Int)) := by
  have hlen : l.length = n := by have := h.1; simpa [vals] using this
  refine ⟨by simpa using hlen, fun hn => ?_, ?_⟩
  · obtain ⟨g, cap, hv, _, hlt⟩ := h.form hn
    have hA : A = some ⟨g, 0, none⟩ := by injection hv
    subst hA
    refine ⟨_, rfl, fun j z hz => h.cells (g := g) rfl j _ ?_⟩
    simp [vals] at hz ⊢
    obtain ⟨a, ha, rfl⟩ := hz
    exact ⟨a, ha, rfl⟩
  · intro z hz
    obtain ⟨k, hk, rfl⟩ := List.mem_map.1 hz
    have := hl k hk
    exact ⟨by omega, by omega⟩
theorem own_shapeS {w : World} {base : Nat} {v : Value} {n : Nat} {xs : List Value} (h : w.ownsRow base 3 1 v n xs) : ∃ A c, v = .slice A n c := by
  rcases h.2 with ⟨rfl, rfl⟩ | ⟨g, cap, cur, rfl, _⟩
  · exact ⟨none, 0, rfl⟩
  · exact ⟨_, _, rfl⟩
/-- what one edge goes to, and what that reaches. -/
noncomputable def wantL (m : Mm.Gr) (x : Nat) : List Nat → Nat
  | [] => x
  | i :: l => wantL m (x ||| Mm.ways (Mm.E m) i) l
theorem wantL_snoc (m : Mm.Gr) (x : Nat) (l : List Nat) (i : Nat) : wantL m x (l ++ [i]) = wantL m x l ||| Mm.ways (Mm.E m) i := by
  induction l generalizing x with
  | nil => rfl
  | cons j l ih => exact ih _
theorem wantL_lt {m : Mm.Gr} {x : Nat} (l : List Nat) (h : x < 4294967296) : wantL m x l < 4294967296 := by
  induction l generalizing x with
  | nil => exact h
  | cons j l ih => exact ih (Mm.or_lt32 h (Mm.ways_lt32 _ _))
theorem wantL_test (m : Mm.Gr) (x : Nat) (l : List Nat) (j : Nat) : (wantL m x l).testBit j = true ↔ x.testBit j = true ∨ ∃ i ∈ l, j < 32 ∧ Mm.W (Mm.E m) i j := by
  induction l generalizing x with
  | nil => simp [wantL]
  | cons k l ih =>
    show (wantL m (x ||| Mm.ways (Mm.E m) k) l).testBit j = true ↔ _
    rw [ih, Nat.testBit_or, Bool.or_eq_true, Mm.ways_test]
    constructor
    · rintro ((h | h) | ⟨i, h1, h2⟩)
      · exact .inl h
      · exact .inr ⟨k, by simp, h⟩
      · exact .inr ⟨i, by simp [h1], h2⟩
    · rintro (h | ⟨i, h1, h2⟩)
      · exact .inl (.inl h)
      · rcases List.mem_cons.1 h1 with rfl | h1
        · exact .inl (.inr h2)
        · exact .inr ⟨i, h1, h2⟩
theorem steps_eq (m : Mm.Gr) (x : Nat) : Mm.ways (Mm.E m) x = wantL m (Mm.outs m x) (Sm.items (Mm.outs m x)) := by
  symm
  apply Mm.ways_eq
  intro j
  rw [wantL_test, Mm.outs_test]
  constructor
  · rintro (h | ⟨i, h1, h2, h3⟩)
    · exact ⟨h.2.1, .one h⟩
    · exact ⟨h2, Mm.W.head ((Mm.outs_test m x i).1 (Sm.items_mem.1 h1).2) h3⟩
  · rintro ⟨hj, h⟩
    rcases h.cases_head with h1 | ⟨i, h1, h2⟩
    · exact .inl h1
    · exact .inr ⟨i, Sm.items_mem.2 ⟨by have := h1.2.1; omega, (Mm.outs_test m x i).2 h1⟩, hj, h2⟩
theorem takeN_step {zs : List Nat} {k : Nat} {z : Nat} (h : zs[k]? = some z) : zs.take (k + 1) = zs.take k ++ [z] := by
  obtain ⟨hl, rfl⟩ := List.getElem?_eq_some_iff.1 h
  exact List.take_succ_eq_append_getElem hl
def StepsRel (m : Mm.Gr) (x g n : Nat) (A : Option Addr) (l : List Nat) (w : World) (want i : Value) (wr : World) : Prop :=
  ∃ k : Nat, k ≤ n ∧ i = .int .i64 k ∧ want = .int .u64 (wantL m (Mm.outs m x) (l.take k) : Nat) ∧ IntsAt wr A n (l.map fun (k : Nat) => (k : Int)) ∧ St w g m wr
theorem or_key {x y : Nat} (hx : x < 4294967296) (hy : y < 4294967296) : bits .or .u64 (x : Int) ((y : Nat) : Int) = ((x ||| y : Nat) : Int) := bits_or_u64_nat x y (by omega) (by omega)
set_option maxHeartbeats 2000000 in
set_option maxRecDepth 100000 in
theorem steps_at (m : Mm.Gr) (a x : Nat) (w : World) (hm : Mm.Ok m) (ha : a < 256) (hx : Int.tmod (a : Int) 32 = ((x : Nat) : Int)) (hx32 : x < 32) (hT : TabAt w) :
    Calls Tryd.prog 9 #[.agg (matA m), .int .u8 (a : Nat)] w fun e w' => e = .returned (.bool true) ∧ Below w.heap.size w w' := by
  have ho32 := Mm.outs_lt m x
  have ho64 : Mm.outs m x < 18446744073709551616 := by omega
  have HT := Lib.hid hT
  clear hT
  go_enter Tryd.func9, Tryd.ntmps9
  go_wp2_with fail
  refine (alive_any _ (tabAt_new HT.out _)).mono ?_
  rintro e w1 ⟨rfl, hb1⟩
  have H1 := Lib.hid ((matAt_new w m 24).below hb1)
  go_wp2_with (refine wpList_load_row rfl 24 (.tmp 2) rfl w.heap.size rfl 24 (matA m) (0, 0) _ H1.out Tryd.underlying24 rfl (rmatInfo m) ?_)
  refine (theirs_any m _).mono ?_
  rintro e w2 ⟨rfl, hb2⟩
  have HS := Lib.hid (st_first HT.out hb1 hb2)
  clear hb1 hb2 H1
  go_wp2_with (first
    | (refine wpList_store_row rfl 28 (.tmp 5) (.tmp 13) rfl w2.heap.size (matA m) rfl rfl 28 _ (heap_alloc_new _ _) (matInfo _) (by rw [matA_size]; rfl) (matA_one _) ?_; rw [World.setRow_alloc_new])
    | (refine wpList_load_row rfl 28 (.tmp 5) rfl w2.heap.size rfl 28 (matA m) (0, 0) _ HS.out.theirs Tryd.underlying28 rfl (matInfo _) ?_))
  refine (outs_in m x _ hm hx32).mono ?_
  rintro e w3 ⟨rfl, hb3⟩
  have HS3 := Lib.hid (HS.out.below hb3)
  clear hb3 HS
  go_wp2_with (first
    | (refine wpList_load_row rfl 28 (.tmp 5) rfl w2.heap.size rfl 28 (matA m) (0, 0) _ HS3.out.theirs Tryd.underlying28 rfl (matInfo _) ?_))
  refine (outs_in m x _ hm hx32).mono ?_
  rintro e w4 ⟨rfl, hb4⟩
  have HS4 := Lib.hid (HS3.out.below hb4)
  clear hb4 HS3
  go_wp2_with fail
  refine (items_any _ _ ho64 HS4.out.tab).mono ?_
  rintro e w5 ⟨v, rfl, hown, hb5⟩
  obtain ⟨A, c, rfl⟩ := own_shapeS hown
  have HI := Lib.hid (own_ints hown (fun k hk => Sm.items_lt hk))
  have HS5 := Lib.hid (HS4.out.below hb5)
  have hlen := Sm.items_len (Mm.outs m x)
  have HQ := Lib.hid (steps_eq m x)
  have hl32 : ∀ i ∈ Sm.items (Mm.outs m x), i < 32 := fun i hi => Mm.test32 ho32 (Sm.items_mem.1 hi).2
  clear hb5 HS4 hown
  generalize hL : Sm.items (Mm.outs m x) = l at *
  have HLL := Lib.hid hL
  clear hL
  generalize hN : l.length = n at *
  have HNN := Lib.hid hN
  clear hN
  have HL32 := Lib.hid hl32
  clear hl32
  go_wp2
  go_loopw [7, 25] (StepsRel m x w2.heap.size n A l w) (fun _ i _ => n - (intOf i).toNat)
  case atStart => exact ⟨0, by omega, rfl, by rw [List.take_zero]; rfl, HI.out, HS5.out⟩
  case round =>
    obtain ⟨k, hk, rfl, rfl, hI, hS⟩ := hrel
    have HIr := Lib.hid hI
    have HSr := Lib.hid hS
    have hwl := wantL_lt (m := m) (l.take k) ho32
    clear hI hS
    by_cases hlt : k < n
    · obtain ⟨ad, z, rfl, hz, hc, h0, h1⟩ := HIr.out.at_ hlt
      rw [List.getElem?_map] at hz
      obtain ⟨i, hi, rfl⟩ := Option.map_eq_some_iff.1 hz
      have hi32 : i < 32 := HL32.out i (List.mem_of_getElem? hi)
      have HTS := Lib.hid (takeN_step hi)
      have HK := Lib.hid (or_key hwl (Mm.ways_lt32 (Mm.E m) i))
      clear hz hi
      go_wp2_with (first
        | (refine wpList_load_row rfl 28 (.tmp 5) rfl w2.heap.size rfl 28 (matA m) (0, 0) _ HSr.out.theirs Tryd.underlying28 rfl (matInfo _) ?_)
        | (go_at_call 23; refine (reach_in m i _ hm hi32 HSr.out.tab).mono ?_; rintro e w6 ⟨rfl, hb6⟩))
      rw [HK.out]
      refine ⟨⟨k + 1, by omega, by go_num, by rw [HTS.out, wantL_snoc], HIr.out.below hb6, HSr.out.below hb6⟩, by simp [intOf]; omega⟩
    · obtain rfl : k = n := by omega
      have HW := Lib.hid (show wantL m (Mm.outs m x) (l.take k) = Mm.ways (Mm.E m) x by rw [List.take_of_length_le (by have := HNN.out; omega), HQ.out])
      go_wp2_with (first
        | (refine wpList_load_row rfl 28 (.tmp 5) rfl w2.heap.size rfl 28 (matA m) (0, 0) _ HSr.out.theirs Tryd.underlying28 rfl (matInfo _) ?_)
        | (go_at_call 23; refine (reach_in m x _ hm hx32 HSr.out.tab).mono ?_; rintro e w6 ⟨rfl, hb6⟩))
      rw [HW.out]
      go_ret
      exact ⟨by simp, (HSr.out.below hb6).bel⟩
theorem matSteps_any (m : Mm.Gr) (a : Nat) (w : World) (hm : Mm.Ok m) (ha : a < 256) (hT : TabAt w) :
    Calls Tryd.prog 9 #[.agg (matA m), .int .u8 (a : Nat)] w fun e w' => e = .returned (.bool true) ∧ Below w.heap.size w w' :=
  steps_at m a (a % 32) w hm ha (tmod32 a) (Nat.mod_lt _ (by decide)) hT
end Go.Proofs.YtjciikdhjgekgaaDoor
