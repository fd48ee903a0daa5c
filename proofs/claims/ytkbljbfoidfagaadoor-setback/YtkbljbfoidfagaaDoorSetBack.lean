/-
  The walk of SetBack: for every set and every number it answers true; nothing that was there is changed.
-/
import Derived.Test.YtkbljbfoidfagaaDoorSetSums
import Derived.Deep.RegionLaw
namespace Go.Proofs.YtkbljbfoidfagaaDoor
open Go.RowKit
theorem step_append_ints {w : World} {ops : Array Oper} {o : Oper} {a : Act} {K : Act → World → Prop} {Q : Exit → Act → World → Prop} {E : Prop} (hgd : o.guard = none) (s x : Operand)
    (ho : o.op = .call { callee := .builtin .append, args := #[s, x], argTypes := #[23, 23] })
    (base : Nat) (v : Value) (n : Nat) (xs : List Int) (hs : a.eval s = v) (hown : w.ownsRow base 3 1 v n (ivals xs))
    (A : Option Addr) (m c : Nat) (zs : List Int) (hx : a.eval x = .slice A m c) (hz : IntsAt w A m zs) (hc : A = none → c = 0) (hnm : n + m ≤ 1000000) (hbase : base ≤ w.heap.size)
    (h : ∀ v' w', w'.ownsRow base 3 1 v' (n + m) (ivals (xs ++ zs)) → w.grownBy w' v.ownBlock → K (a.put o.dst v') w') :
    if Region.wanted o (yielded ops a.tmps) = true then Oper.wp Tryd.prog o a w K Q else E := by
  have hw : Region.wanted o (yielded ops a.tmps) = true := by simp [Region.wanted, hgd]
  rw [if_pos hw]
  obtain ⟨v', w', hrun, h2, h3⟩ := run_append_ints base o.type v n xs hown A m c zs hz hc hnm hbase
  unfold Oper.wp
  simp [execOp, ho, resolve, invoke, builtin, hs, hx, hrun, Result.andThen]
  exact h v' w' h2 h3
theorem add_mem {x k : Nat} (hk : k < 64) (h : x.testBit k = true) : Sm.add x (k : Nat) = x := by
  apply Sm.ext; intro j
  rw [Sm.add_test]
  by_cases e : j = k
  · subst e; simp [h]
  · have : ¬ (0 ≤ ((k : Nat) : Int) ∧ ((k : Nat) : Int) ≤ 63 ∧ ((j : Nat) : Int) = ((k : Nat) : Int)) := by omega
    rw [decide_eq_false this]; simp
theorem add_less {x k : Nat} (hx : x < 18446744073709551616) (hk : k < 64) (h : x.testBit k = true) : Sm.add (Sm.less x (k : Nat)) (k : Nat) = x := by
  apply Sm.ext; intro j
  rw [Sm.add_test, Sm.less_test _ _ hx]
  by_cases e : j = k
  · subst e
    have : (0 ≤ ((j : Nat) : Int) ∧ ((j : Nat) : Int) ≤ 63 ∧ ((j : Nat) : Int) = ((j : Nat) : Int)) := by omega
    rw [decide_eq_true this]; simp [h]
  · have : ¬ (0 ≤ ((k : Nat) : Int) ∧ ((k : Nat) : Int) ≤ 63 ∧ ((j : Nat) : Int) = ((k : Nat) : Int)) := by omega
    rw [decide_eq_false this]; simp
theorem with_same (x k : Nat) (w : World) (hx : x < 18446744073709551616) (hk : k < 64) (h : x.testBit k = true) :
    Calls Tryd.prog 11 #[.int .u64 x, .int .i64 (k : Nat)] w fun e w' => e = .returned (.int .u64 x) ∧ w = w' := by
  have := with_any x (k : Nat) w hx (by omega) (by omega)
  rw [add_mem hk h] at this
  exact this
theorem with_less (x k : Nat) (w : World) (hx : x < 18446744073709551616) (hk : k < 64) (h : x.testBit k = true) :
    Calls Tryd.prog 11 #[.int .u64 (Sm.less x (k : Nat) : Nat), .int .i64 (k : Nat)] w fun e w' => e = .returned (.int .u64 x) ∧ w = w' := by
  have := with_any (Sm.less x (k : Nat)) (k : Nat) w (Sm.less_lt _ hx) (by omega) (by omega)
  rw [add_less hx hk h] at this
  exact this
def inat (l : List Nat) : List Int := l.map fun (k : Nat) => (k : Int)
/-- a set's numbers, turned round at a place, are the set. -/
theorem ofL_turn {x : Nat} (k : Nat) (hx : x < 18446744073709551616) : Sm.ofL 0 (inat ((Sm.items x).drop k) ++ inat ((Sm.items x).take k)) = x := by
  apply Sm.ofL_items _ hx
  intro j _
  have e : (j : Int) ∈ inat ((Sm.items x).drop k) ++ inat ((Sm.items x).take k) ↔ j ∈ (Sm.items x).drop k ++ (Sm.items x).take k := by
    simp only [inat, ← List.map_append, List.mem_map]
    constructor
    · rintro ⟨a, ha, hj⟩
      have : a = j := by omega
      rwa [← this]
    · intro h; exact ⟨j, h, rfl⟩
  rw [e, List.mem_append, or_comm, ← List.mem_append, List.take_append_drop]
theorem own_part {w : World} {base : Nat} {g n c : Nat} {l : List Nat} (h : w.ownsRow base 3 1 (.slice (some ⟨g, 0, none⟩) n c) n (vals l)) (hl : ∀ k ∈ l, k < 64) (i m : Nat) (hm : i + m ≤ n) :
    IntsAt w (some ⟨g, i, none⟩) m (inat ((l.drop i).take m)) := by
  have hlen : l.length = n := by have := h.1; simpa [vals] using this
  refine ⟨by simp [inat]; omega, fun _ => ⟨_, rfl, fun j z hz => ?_⟩, ?_⟩
  · have hadd : (⟨g, i, none⟩ : Addr).add j = (⟨g, 0, none⟩ : Addr).add (i + j) := by
      unfold Addr.add
      by_cases hi : i = 0 <;> by_cases hj : j = 0 <;> simp [hi, hj]
    rw [hadd]
    refine h.cells (g := g) rfl (i + j) _ ?_
    simp only [inat, List.getElem?_map, List.getElem?_take, Option.map_eq_some_iff] at hz
    obtain ⟨a, ha, rfl⟩ := hz
    split at ha
    · rw [List.getElem?_drop] at ha
      simp [vals, ha]
    · cases ha
  · intro z hz
    simp only [inat, List.mem_map] at hz
    obtain ⟨a, ha, rfl⟩ := hz
    have := hl a (List.mem_of_mem_drop (List.mem_of_mem_take ha))
    exact ⟨by omega, by omega⟩
theorem own_cap {w : World} {base : Nat} {A : Option Addr} {n c : Nat} {xs : List Value} (h : w.ownsRow base 3 1 (.slice A n c) n xs) : n ≤ c ∧ c ≤ 9223372036854775807 := by
  rcases h.2 with ⟨he, rfl⟩ | ⟨g, cap, cur, he, _, _, hnc, hm, _⟩
  · injection he with _ _ he
    subst he
    exact ⟨by omega, by omega⟩
  · injection he with _ _ he
    subst he
    unfold maxLen at hm
    exact ⟨hnc, by omega⟩
set_option maxHeartbeats 1000000 in
set_option maxRecDepth 100000 in
theorem setBack_any (x : Nat) (t : Int) (w : World) (hx : x < 18446744073709551616) (ht0 : 0 ≤ t) (ht1 : t ≤ 255) (hT : TabAt w) :
    Calls Tryd.prog 4 #[.int .u64 x, .int .u8 t] w fun e w' => e = .returned (.bool true) ∧ Below w.heap.size w w' := by
  have HT := Lib.hid hT
  clear hT
  go_enter Tryd.func4, Tryd.ntmps4
  go_wp2_with fail
  refine (alive_any _ HT.out).mono ?_
  rintro e w1 ⟨rfl, hb1⟩
  have HT1 := Lib.hid (HT.out.below hb1 HT.out.lt)
  go_wp2_with fail
  refine (items_any _ _ hx HT1.out).mono ?_
  rintro e w2 ⟨v, rfl, hown, hb2⟩
  have HT2 := Lib.hid (HT1.out.below hb2 HT1.out.lt)
  have hb : Below w.heap.size w w2 := hb1.trans (hb2.mono hb1.size)
  have hlen := Sm.items_len x
  by_cases hn : 0 < (Sm.items x).length
  · obtain ⟨g, c, rfl, hg1, hg2⟩ := hown.form hn
    have HO := Lib.hid hown
    clear hown
    have hcnt : ((((Sm.items x).length : Nat) : Int) != ((Sm.count x : Nat) : Int)) = false := by simp [Sm.count]
    go_wp2_with (go_at_call 20; refine (count_any _ _ hx).mono ?_; rintro e w' ⟨rfl, rfl⟩)
    obtain ⟨k, hk, hkn⟩ : ∃ k : Nat, t % (((Sm.items x).length : Nat) : Int) = (k : Int) ∧ k < (Sm.items x).length :=
      ⟨(t % (((Sm.items x).length : Nat) : Int)).toNat, by have := Int.emod_nonneg t (b := (((Sm.items x).length : Nat) : Int)) (by omega); omega, by have := Int.emod_lt_of_pos t (b := (((Sm.items x).length : Nat) : Int)) (by omega); have := Int.emod_nonneg t (b := (((Sm.items x).length : Nat) : Int)) (by omega); omega⟩
    rw [hk]
    clear hk ht0 ht1
    obtain ⟨g', z, hg', hz, hc⟩ := own_at HO.out hkn
    injection hg' with hg'
    injection hg' with hg' _
    subst hg'
    obtain ⟨hz1, hz2⟩ := items_get hz
    have HZ := Lib.hid hz2
    clear hz2 hz
    go_quiet ((first
      | (go_at_call_of 11 (Sm.less x ((z : Nat) : Int)); exact quiet_left (with_less _ _ _ hx hz1 HZ.out))
      | (go_at_call 11; exact quiet_left (with_same _ _ _ hx hz1 HZ.out))
      | (go_at_call 9; exact quiet_left (has_yes _ _ _ hx hz1 HZ.out))
      | (go_at_call 13; exact quiet_left (less_any _ _ _ hx (by omega) (by omega)))))
    go_wp2
    have hcap := own_cap HO.out
    have HO3 : Hid ((w2.drewN nq).ownsRow w1.heap.size 3 1 (.slice (some ⟨g, 0, none⟩) (Sm.items x).length c) (Sm.items x).length (vals (Sm.items x))) := HO
    have hb3 : Below w.heap.size w (w2.drewN nq) := below_drewN hb nq
    generalize w2.drewN nq = w3 at *
    have hck : ¬ c = k := by omega
    have hk1 : k ≤ (Sm.items x).length := by omega
    have hk2 : k ≤ c := by omega
    have H1 := Lib.hid (own_part HO3.out (fun j hj => Sm.items_lt hj) k ((Sm.items x).length - k) (by omega))
    have H2 := Lib.hid (own_part HO3.out (fun j hj => Sm.items_lt hj) 0 k (by omega))
    have Hturn := Lib.hid (ofL_turn k hx)
    have Hall : Hid (∀ z ∈ inat ((Sm.items x).drop k) ++ inat ((Sm.items x).take k), i64s z) := by
      intro z hz
      simp only [inat, ← List.map_append, List.mem_map] at hz
      obtain ⟨a, ha, rfl⟩ := hz
      have : a ∈ Sm.items x := by
        rcases List.mem_append.1 ha with h | h
        · exact List.mem_of_mem_drop h
        · exact List.mem_of_mem_take h
      have := Sm.items_lt this
      exact ⟨by omega, by omega⟩
    have e1 : ((Sm.items x).drop k).take ((Sm.items x).length - k) = (Sm.items x).drop k := List.take_of_length_le (by simp)
    rw [e1] at H1
    rw [List.drop_zero] at H2
    clear hc hb hb2 HT2 hg2 e1
    go_region_law (first
      | (refine step_append_ints rfl (.const (.slice none 0 0)) (.tmp 60) rfl w3.heap.size (.slice none 0 0) 0 [] (by simp [Act.eval]) (World.ownsRow_nil _ _ _ _) (some ⟨g, k, none⟩) ((Sm.items x).length - k) (c - k) (inat ((Sm.items x).drop k)) (by simp [Act.eval, Act.put]) (by exact H1.out) (fun h => by cases h) (by omega) (by exact Nat.le_refl _) ?_; intro v4 w4 hown4 hg4; have HO4 := Lib.hid hown4; have hb4 : Below w3.heap.size w3 w4 := (Below.refl w3.heap.size w3).drew.grown hg4 (by exact Nat.le_refl _) (by simp [Value.ownBlock]); clear hown4 hg4)
      | (refine step_append_ints rfl (.tmp 61) (.tmp 64) rfl w3.heap.size v4 (0 + ((Sm.items x).length - k)) ([] ++ inat ((Sm.items x).drop k)) (by simp [Act.eval]) (by exact HO4.out) (some ⟨g, 0, none⟩) k c (inat ((Sm.items x).take k)) (by simp [Act.eval]) (by exact H2.out.below hb4) (fun h => by cases h) (by omega) (by exact hb4.size) ?_; intro v5 w5 hown5 hg5; have hb5 : Below w3.heap.size w3 w5 := hb4.grown hg5 hb4.size (fun k hk => (HO4.out.lt k hk).1); rw [show 0 + ((Sm.items x).length - k) + k = (Sm.items x).length from by omega] at hown5; obtain ⟨A5, c5, rfl⟩ := own_shapeI hown5; have HI5 := Lib.hid (own_ivals hown5 Hall.out); clear hown5 hg5)
      | (go_simp; go_at_call 21; refine (of_any _ _ _ (inat ((Sm.items x).drop k) ++ inat ((Sm.items x).take k)) _ (by omega) HI5.out).mono ?_; rintro e w' ⟨rfl, rfl⟩; rw [Hturn.out]))
    go_wp2
    go_ret
    exact ⟨rfl, hb3.trans (hb5.mono hb3.size)⟩
  · have hl0 : (Sm.items x).length = 0 := by omega
    have hx0 : x = 0 := Sm.zero_of_items hx (List.eq_nil_of_length_eq_zero hl0)
    subst hx0
    rw [hl0] at hown
    have Hof := Lib.hid (show Sm.ofL 0 [] = 0 from rfl)
    have hct : ∀ W, Calls Tryd.prog 20 #[.int .u64 0] W fun e w' => e = .returned (.int .i64 0) ∧ W = w' := fun W => count_any 0 W (by decide)
    have HCt := Lib.hid hct
    clear hct hl0 hn hlen
    have hnil : ∀ W A, IntsAt W A 0 [] := fun W A => ⟨rfl, fun h => absurd h (by omega), fun z hz => by simp at hz⟩
    have HN := Lib.hid hnil
    clear hnil
    obtain ⟨A, c, rfl⟩ := own_shape hown
    have hAc : (A = none ∧ c = 0) ∨ ∃ g, A = some ⟨g, 0, none⟩ := by
      rcases hown.2 with ⟨he, _⟩ | ⟨g, cap, cur, he, _⟩
      · injection he with h1 _ h2
        exact .inl ⟨h1, h2⟩
      · injection he with h1 _ _
        exact .inr ⟨g, h1⟩
    clear hown
    rcases hAc with ⟨rfl, rfl⟩ | ⟨g, rfl⟩
    · go_wp2_with (go_at_call 20; refine (HCt.out _).mono ?_; rintro e w' ⟨rfl, rfl⟩)
      go_region_law (go_simp; go_at_call 21; refine (of_any _ _ _ [] _ (by omega) (HN.out _ _)).mono ?_; rintro e w' ⟨rfl, rfl⟩; rw [Hof.out])
      go_wp2
      go_ret
      exact ⟨rfl, hb.drew⟩
    · go_wp2_with (go_at_call 20; refine (HCt.out _).mono ?_; rintro e w' ⟨rfl, rfl⟩)
      go_region_law (go_simp; go_at_call 21; refine (of_any _ _ _ [] _ (by omega) (HN.out _ _)).mono ?_; rintro e w' ⟨rfl, rfl⟩; rw [Hof.out])
      go_wp2
      go_ret
      exact ⟨rfl, hb.drew⟩
end Go.Proofs.YtkbljbfoidfagaaDoor
