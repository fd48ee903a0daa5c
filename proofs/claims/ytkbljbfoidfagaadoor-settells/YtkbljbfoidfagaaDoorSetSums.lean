/-
  The walk of SetSums: for any two rows of whole numbers it answers true; nothing that was there is changed.
-/
import Derived.Test.YtkbljbfoidfagaaDoorSetRises
import Derived.Laws.AppendOwnNone
namespace Go.Proofs.YtkbljbfoidfagaaDoor
open Go.RowKit
theorem cell_lt {w : World} {p : Addr} {v : Value} (h : w.cell? p = some v) : p.block < w.heap.size := by
  rcases Nat.lt_or_ge p.block w.heap.size with hl | hg
  · exact hl
  · simp [World.cell?, Array.getElem?_eq_none hg] at h
theorem add_block (a : Addr) (n : Nat) : (a.add n).block = a.block := by unfold Addr.add; split <;> rfl
theorem IntsAt.below {w w' : World} {A : Option Addr} {n : Nat} {zs : List Int} (h : IntsAt w A n zs) (hb : Below w.heap.size w w') : IntsAt w' A n zs :=
  h.keep fun ad e j hj => by
    obtain ⟨ad', z, e', _, hc, _⟩ := h.at_ hj
    rw [e] at e'
    injection e' with e'
    subst e'
    exact hb.cell (cell_lt hc)
def ivals (l : List Int) : List Value := l.map fun z => Value.int .i64 z
theorem own_ivals {w : World} {base : Nat} {A : Option Addr} {n c : Nat} {l : List Int} (h : w.ownsRow base 3 1 (.slice A n c) n (ivals l)) (hl : ∀ z ∈ l, i64s z) : IntsAt w A n l := by
  have hlen : l.length = n := by have := h.1; simpa [ivals] using this
  refine ⟨hlen, fun hn => ?_, hl⟩
  obtain ⟨g, cap, hv, _, hlt⟩ := h.form hn
  have hA : A = some ⟨g, 0, none⟩ := by injection hv
  subst hA
  exact ⟨_, rfl, fun j z hz => h.cells (g := g) rfl j _ (by simp [ivals, hz])⟩
theorem own_shapeI {w : World} {base : Nat} {v : Value} {n : Nat} {xs : List Value} (h : w.ownsRow base 3 1 v n xs) : ∃ A c, v = .slice A n c := by
  rcases h.2 with ⟨rfl, rfl⟩ | ⟨g, cap, cur, rfl, _⟩
  · exact ⟨none, 0, rfl⟩
  · exact ⟨_, _, rfl⟩
/-- an append of a slice of whole numbers, nil or not, onto a row of the call's own. -/
theorem run_append_ints {w : World} (base ty : Nat) (v : Value) (n : Nat) (xs : List Int) (hown : w.ownsRow base 3 1 v n (ivals xs))
    (A : Option Addr) (m c : Nat) (zs : List Int) (hz : IntsAt w A m zs) (hc : A = none → c = 0) (hnm : n + m ≤ 1000000) (hbase : base ≤ w.heap.size) :
    ∃ v' w', (Builtin.append_ #[23, 23] ty #[v, .slice A m c]).run Tryd.prog w = .ok v' w' ∧ w'.ownsRow base 3 1 v' (n + m) (ivals (xs ++ zs)) ∧ w.grownBy w' v.ownBlock := by
  obtain ⟨i0, hi, hz0, hz1, hz2⟩ := info_parts int_info
  cases A with
  | none =>
    have hm : m = 0 := by
      rcases Nat.eq_zero_or_pos m with h0 | h0
      · exact h0
      · obtain ⟨ad, h, _⟩ := hz.2.1 h0
        cases h
    subst hm
    obtain rfl := hc rfl
    have hn : zs = [] := List.eq_nil_of_length_eq_zero hz.1
    subst hn
    exact ⟨v, w, run_append_owned_none w base 23 ty 3 i0 1 Tryd.underlying23 hi v n _ hown, by simpa using hown, World.grownBy.refl w _⟩
  | some ad =>
    have hcells : ∀ j u, (ivals zs)[j]? = some u → w.cell? (ad.add j) = some u := by
      intro j u hu
      rcases Nat.eq_zero_or_pos m with h0 | h0
      · subst h0
        have hn : zs = [] := List.eq_nil_of_length_eq_zero hz.1
        subst hn
        simp [ivals] at hu
      · obtain ⟨ad', h, hcc⟩ := hz.2.1 h0
        injection h with h
        subst h
        simp [ivals] at hu
        obtain ⟨z, hz', rfl⟩ := hu
        exact hcc j z hz'
    obtain ⟨v', w', hrun, h2, h3, _⟩ := run_append_own (P := Tryd.prog) w base 23 ty 3 i0 (.int .i64 0) 1 8 Tryd.underlying23 hi hz0 hz1 hz2 rfl (by decide) v n (ivals xs) hown ad m c (ivals zs)
      (by have := hz.1; simpa [ivals] using this) hcells (by intro u hu; simp [ivals] at hu; obtain ⟨z, _, rfl⟩ := hu; rfl) (by unfold maxLen; omega) (by omega) hbase
    exact ⟨v', w', hrun, by simpa [ivals] using h2, h3⟩
theorem wpList_append_ints {w : World} {ops : Array Oper} {rest : List Oper} {o : Oper} {a : Act} {Q : Exit → Act → World → Prop} (hgd : o.guard = none) (s x : Operand)
    (ho : o.op = .call { callee := .builtin .append, args := #[s, x], argTypes := #[23, 23] })
    (base : Nat) (v : Value) (n : Nat) (xs : List Int) (hs : a.eval s = v) (hown : w.ownsRow base 3 1 v n (ivals xs))
    (A : Option Addr) (m c : Nat) (zs : List Int) (hx : a.eval x = .slice A m c) (hz : IntsAt w A m zs) (hc : A = none → c = 0) (hnm : n + m ≤ 1000000) (hbase : base ≤ w.heap.size)
    (h : ∀ v' w', w'.ownsRow base 3 1 v' (n + m) (ivals (xs ++ zs)) → w.grownBy w' v.ownBlock → wpList Tryd.prog ops Q rest (a.put o.dst v') w') : wpList Tryd.prog ops Q (o :: rest) a w := by
  refine wpList_plain hgd fun K hK => ?_
  obtain ⟨v', w', hrun, h2, h3⟩ := run_append_ints base o.type v n xs hown A m c zs hz hc hnm hbase
  unfold Oper.wp
  simp [execOp, ho, resolve, invoke, builtin, hs, hx, hrun, Result.andThen]
  exact hK _ _ (h v' w' h2 h3)

/- plain mathematics -/
theorem has_ofL (za zb : List Int) (k : Nat) (hk : k < 64) : Sm.has (Sm.ofL 0 (za ++ zb)) (k : Nat) = (Sm.has (Sm.ofL 0 za) (k : Nat) || Sm.has (Sm.ofL 0 zb) (k : Nat)) := by
  rw [Sm.has_nat _ (Sm.ofL_lt _ (by decide)), Sm.has_nat _ (Sm.ofL_lt _ (by decide)), Sm.has_nat _ (Sm.ofL_lt _ (by decide)), Sm.ofL_test _ _ _ hk, Sm.ofL_test _ _ _ hk, Sm.ofL_test _ _ _ hk]
  simp [Bool.decide_or]
def lessL (x : Nat) : List Nat → Nat
  | [] => x
  | k :: l => lessL (Sm.less x (k : Nat)) l
theorem lessL_snoc (x : Nat) (l : List Nat) (k : Nat) : lessL x (l ++ [k]) = Sm.less (lessL x l) (k : Nat) := by
  induction l generalizing x with
  | nil => rfl
  | cons a l ih => exact ih _
theorem lessL_lt {x : Nat} (l : List Nat) (h : x < 18446744073709551616) : lessL x l < 18446744073709551616 := by
  induction l generalizing x with
  | nil => exact h
  | cons i l ih => exact ih (Sm.less_lt _ h)
theorem lessL_test {x : Nat} (l : List Nat) (j : Nat) (h : x < 18446744073709551616) (hj : j < 64) : (lessL x l).testBit j = (x.testBit j && !decide (j ∈ l)) := by
  induction l generalizing x with
  | nil => simp [lessL]
  | cons i l ih =>
    show (lessL (Sm.less x (i : Nat)) l).testBit j = _
    rw [ih (Sm.less_lt _ h), Sm.less_test _ _ h, Bool.eq_iff_iff]
    simp
    constructor
    · rintro ⟨⟨h1, h2⟩, h3⟩
      exact ⟨h1, fun e => by omega, h3⟩
    · rintro ⟨h1, h2, h3⟩
      exact ⟨⟨h1, by omega⟩, h3⟩
theorem lessL_items {x : Nat} (h : x < 18446744073709551616) : lessL x (Sm.items x) = 0 := by
  apply Sm.ext; intro j
  rw [Nat.zero_testBit]
  by_cases hj : j < 64
  · rw [lessL_test _ _ h hj]
    cases hx : x.testBit j
    · rfl
    · have : j ∈ Sm.items x := Sm.items_mem.2 ⟨hj, hx⟩
      simp [this]
  · exact Sm.test_big (lessL_lt _ h) (by omega)
theorem takeN_step {zs : List Nat} {k : Nat} {z : Nat} (h : zs[k]? = some z) : zs.take (k + 1) = zs.take k ++ [z] := by
  obtain ⟨hl, rfl⟩ := List.getElem?_eq_some_iff.1 h
  exact List.take_succ_eq_append_getElem hl
theorem has_val (x : Nat) (k : Nat) (b : Bool) (w : World) (hx : x < 18446744073709551616) (hk : k < 64) (h : Sm.has x (k : Nat) = b) :
    Calls Tryd.prog 9 #[.int .u64 x, .int .i64 (k : Nat)] w fun e w' => e = .returned (.bool b) ∧ w = w' := by
  have := has_any x (k : Nat) w hx (by omega) (by omega)
  rw [h] at this
  exact this
set_option maxHeartbeats 1000000 in
set_option maxRecDepth 100000 in
theorem setSums_long (A B : Option Addr) (n m c d : Nat) (w : World) (hT : TabAt w) (hn : n ≤ 9223372036854775807) (hm : m ≤ 9223372036854775807) (hl : 200 < n ∨ 200 < m) :
    Calls Tryd.prog 7 #[.slice A n c, .slice B m d] w fun e w' => e = .returned (.bool true) ∧ Below w.heap.size w w' := by
  have HT := Lib.hid hT
  clear hT
  by_cases h1 : 200 < n
  · clear hl
    go_enter Tryd.func7, Tryd.ntmps7
    go_wp2_with (go_at_call 8; refine (alive_any _ HT.out).mono ?_; rintro e w1 ⟨rfl, hb1⟩)
    go_ret
    exact ⟨rfl, hb1⟩
  · have h2 : 200 < m := by omega
    have hd : decide ((200 : Int) < (n : Int)) = false := by simp; omega
    clear hl
    go_enter Tryd.func7, Tryd.ntmps7
    go_wp2_with (go_at_call 8; refine (alive_any _ HT.out).mono ?_; rintro e w1 ⟨rfl, hb1⟩)
    go_ret
    exact ⟨rfl, hb1⟩
set_option maxHeartbeats 1000000 in
set_option maxRecDepth 100000 in
theorem setSums_short (A B : Option Addr) (n m c d : Nat) (za zb : List Int) (w : World) (hT : TabAt w) (hn : n ≤ 200) (hm : m ≤ 200)
    (ha : IntsAt w A n za) (hb : IntsAt w B m zb) (hc : A = none → c = 0) (hd : B = none → d = 0) :
    Calls Tryd.prog 7 #[.slice A n c, .slice B m d] w fun e w' => e = .returned (.bool true) ∧ Below w.heap.size w w' := by
  have HT := Lib.hid hT
  have HA := Lib.hid ha
  have HB := Lib.hid hb
  have HC := Lib.hid hc
  have HD := Lib.hid hd
  clear hT ha hb hc hd
  go_enter Tryd.func7, Tryd.ntmps7
  go_wp2_with fail
  refine (alive_any _ HT.out).mono ?_
  rintro e w1 ⟨rfl, hb1⟩
  have HT1 := Lib.hid (HT.out.below hb1 HT.out.lt)
  have HA1 := Lib.hid (HA.out.below hb1)
  have HB1 := Lib.hid (HB.out.below hb1)
  go_wp2_with fail
  refine (of_any _ _ _ za _ (by omega) HA1.out).mono ?_
  rintro e w' ⟨rfl, rfl⟩
  go_wp2_with fail
  refine (of_any _ _ _ zb _ (by omega) HB1.out).mono ?_
  rintro e w' ⟨rfl, rfl⟩
  go_wp2_with (at_builtin; refine wpList_append_ints rfl _ _ rfl w1.heap.size (.slice none 0 0) 0 [] rfl (World.ownsRow_nil _ _ _ _) A n c za rfl HA1.out HC.out (by omega) (Nat.le_refl _) ?_)
  intro v2 w2 hown2 hg2
  have hbel2 : Below w1.heap.size w1 w2 := (Below.refl _ _).grown hg2 (Nat.le_refl _) (by simp [Value.ownBlock])
  have HB2 := Lib.hid (HB1.out.below hbel2)
  have HO2 := Lib.hid hown2
  have hs2 := hbel2.size
  clear hown2 hg2
  go_wp2_with (at_builtin; refine wpList_append_ints (o := ⟨some 28, _, _, _, _, _⟩) rfl (.tmp 26) (.tmp 27) rfl w1.heap.size v2 n za rfl HO2.out B m d zb rfl HB2.out HD.out (by omega) hs2 ?_)
  intro v3 w3 hown3 hg3
  have hbel3 : Below w1.heap.size w1 w3 := hbel2.grown hg3 hbel2.size (fun k hk => (HO2.out.lt k hk).1)
  have hall : ∀ z ∈ za ++ zb, i64s z := by
    intro z hz
    rcases List.mem_append.1 hz with h | h
    · exact HA.out.2.2 z h
    · exact HB.out.2.2 z h
  obtain ⟨A3, c3, rfl⟩ := own_shapeI hown3
  have HI3 := Lib.hid (own_ivals hown3 hall)
  clear hall hown3 hg3
  go_wp2_with fail
  refine (of_any _ _ _ (za ++ zb) _ (by omega) HI3.out).mono ?_
  rintro e w' ⟨rfl, rfl⟩
  have hbel : Below w.heap.size w w3 := hb1.trans (hbel3.mono hb1.size)
  have HT3 := Lib.hid (HT1.out.below hbel3 HT1.out.lt)
  clear hbel2 hbel3 hs2
  have hz := Sm.ofL_lt (x := 0) (za ++ zb) (by decide)
  have hx := Sm.ofL_lt (x := 0) za (by decide)
  have hy := Sm.ofL_lt (x := 0) zb (by decide)
  have HH := Lib.hid (has_ofL za zb)
  generalize Sm.ofL 0 (za ++ zb) = z at *
  generalize Sm.ofL 0 za = x at *
  generalize Sm.ofL 0 zb = y at *
  go_wp2
  go_loop [30] (fun s => ∃ k : Nat, k ≤ 64 ∧ s = .int .i64 k) (fun s => 64 - (intOf s).toNat)
  case atStart => exact ⟨0, by omega, rfl⟩
  case round =>
    obtain ⟨k, hk, rfl⟩ := hrel
    by_cases hlt : k < 64
    · have hor := HH.out k hlt
      cases hbx : Sm.has x (k : Nat)
      · have hzy : Sm.has z (k : Nat) = Sm.has y (k : Nat) := by rw [hor, hbx]; rfl
        have HX := Lib.hid hbx
        have HZ := Lib.hid hzy
        clear hbx hzy hor
        go_wp2_with fail
        refine (has_val _ _ _ _ hz hlt HZ.out).mono ?_
        rintro e w' ⟨rfl, rfl⟩
        go_wp2_with fail
        refine (has_val _ _ _ _ hx hlt HX.out).mono ?_
        rintro e w' ⟨rfl, rfl⟩
        go_wp2_with fail
        refine (has_val _ _ _ _ hy hlt rfl).mono ?_
        rintro e w' ⟨rfl, rfl⟩
        go_wp2_with fail
        go_round
        case rel => exact ⟨k + 1, by omega, by go_num⟩
        case measure => simp [intOf]; omega
      · have hzy : Sm.has z (k : Nat) = true := by rw [hor, hbx]; rfl
        have HX := Lib.hid hbx
        have HZ := Lib.hid hzy
        clear hbx hzy hor
        go_wp2_with fail
        refine (has_val _ _ _ _ hz hlt HZ.out).mono ?_
        rintro e w' ⟨rfl, rfl⟩
        go_wp2_with fail
        refine (has_val _ _ _ _ hx hlt HX.out).mono ?_
        rintro e w' ⟨rfl, rfl⟩
        go_wp2_with fail
        go_round
        case rel => exact ⟨k + 1, by omega, by go_num⟩
        case measure => simp [intOf]; omega
    · go_wp2_with fail
      refine (items_any _ _ hz HT3.out).mono ?_
      rintro e w4 ⟨v, rfl, hown, hb4⟩
      obtain ⟨A4, c4, rfl⟩ := own_shape hown
      have HO := Lib.hid hown
      have hlen := Sm.items_len z
      have hbel4 : Below w.heap.size w w4 := hbel.trans (hb4.mono hbel.size)
      clear hown hb4
      go_wp2
      go_loop [7, 49] (fun s i => ∃ k : Nat, k ≤ (Sm.items z).length ∧ i = .int .i64 k ∧ s = .int .u64 (lessL z ((Sm.items z).take k) : Nat)) (fun _ i => (Sm.items z).length - (intOf i).toNat)
      case atStart => exact ⟨0, by omega, rfl, rfl⟩
      case round =>
        obtain ⟨k, hk, rfl, rfl⟩ := hrel
        have hll := lessL_lt ((Sm.items z).take k) hz
        by_cases hlt : k < (Sm.items z).length
        · obtain ⟨g, q, rfl, hq, hc⟩ := own_at HO.out hlt
          have hq1 := (items_get hq).1
          have HS := Lib.hid (takeN_step hq)
          clear hq
          go_wp2_with (go_at_call 13; refine (less_any _ _ _ hll (by omega) (by omega)).mono ?_; rintro e w' ⟨rfl, rfl⟩)
          go_round
          case rel => exact ⟨k + 1, by omega, by go_num, by rw [HS.out, lessL_snoc]⟩
          case measure => simp [intOf]; omega
        · have e0 : lessL z ((Sm.items z).take k) = 0 := by rw [List.take_of_length_le (by omega), lessL_items hz]
          rw [e0]
          go_wp2
          go_ret
          exact ⟨rfl, hbel4⟩
end Go.Proofs.YtkbljbfoidfagaaDoor
