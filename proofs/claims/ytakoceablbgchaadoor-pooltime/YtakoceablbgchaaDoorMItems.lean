/-
  The contract of set.Items: a new row of all numbers of the set, rising; nothing that was there is changed.
-/
import Derived.Test.YtakoceablbgchaaDoorRowBase
import Derived.WalkMore
import Derived.ScopeJumps
import Derived.OwnWalk
import Derived.Maps.AppendAt
import Derived.Laws.MakeOwn
namespace Go.Proofs.YtakoceablbgchaaDoor
open Go.RowKit

theorem exit_jump_mono {l : Nat} {J J' : Act → World → Prop} {Q : Exit → Act → World → Prop} (h : ∀ a w, J a w → J' a w) : ∀ e a w, Exit.jump l J Q e a w → Exit.jump l J' Q e a w := by
  intro e a w hh
  cases e <;> first | exact hh | exact ⟨hh.1, h _ _ hh.2⟩
theorem wp_scope_jumps3 {P : Program} {a : Act} {w : World} {Q : Exit → Act → World → Prop} {c X : Code} (l : Nat) (J : Act → World → Prop) (μ : Act → World → Nat) (hf : findLabel c l = some (Code.skip.seq X))
    (first : (∀ a w, J a w → X.wp P (Exit.jump l J Q) a w) → c.wp P (Exit.jump l J Q) a w)
    (pass : ∀ a w, J a w → X.wp P (Exit.jump l (fun a' w' => J a' w' ∧ μ a' w' < μ a w) Q) a w) : (Code.scope c).wp P Q a w :=
  wp_scope_jumps l J μ hf (first fun a w h => wp_mono (pass a w h) (exit_jump_mono fun _ _ hh => hh.1)) fun a w h => wp_seq (wp_skip (pass a w h))

theorem int_info : (Tryd.prog.info? 3).map (fun i => (i.zero, i.size, i.bytes)) = some (some (.int .i64 0), 1, 8) := by kernel_rfl
def vals (l : List Nat) : List Value := l.map fun (k : Nat) => Value.int .i64 (k : Int)
def ItemsPost (x : Nat) (w : World) (e : Ending) (w' : World) : Prop :=
  ∃ v, e = .returned v ∧ w'.ownsRow w.heap.size 3 1 v (Sm.items x).length (vals (Sm.items x)) ∧ Below w.heap.size w w'
theorem TabAt.lt {w : World} (h : TabAt w) : 0 < w.heap.size := by
  have := h 0 (by decide)
  rcases Nat.lt_or_ge 0 w.heap.size with hl | hg
  · exact hl
  · simp [World.cell?, Array.getElem?_eq_none hg] at this
theorem TabAt.below {w w' : World} {B : Nat} (h : TabAt w) (hb : Below B w w') (hB : 0 < B) : TabAt w' := fun j hj => (hb.cell (p := ⟨0, j, none⟩) hB).trans (h j hj)

def ItemsJ (x : Nat) (w : World) (a' : Act) (w' : World) : Prop :=
  ∃ (y : Nat) (l : Value) (done : List Nat) (u4 u5 u6 u7 u8 u9 u10 u11 u12 u13 u14 u15 u16 u17 u18 u19 : Value),
    a' = { tmps := #[.int .u64 y, undef, .slice none 0 0, l, u4, u5, u6, u7, u8, u9, u10, u11, u12, u13, u14, u15, u16, u17, u18, u19], defers := [] } ∧
    y < 18446744073709551616 ∧ done ++ Sm.items y = Sm.items x ∧ w'.ownsRow w.heap.size 3 1 l done.length (vals done) ∧ Below w.heap.size w w'

set_option maxHeartbeats 1000000 in
set_option maxRecDepth 100000 in
theorem items_any (x : Nat) (w : World) (hx : x < 18446744073709551616) (hT : TabAt w) : Calls Tryd.prog 16 #[.int .u64 x] w (ItemsPost x w) := by
  obtain ⟨i0, hi, hz0, hz1, hz2⟩ := info_parts int_info
  have hlen := Sm.items_len x
  have hcl : Sm.count x ≤ 64 := hlen
  have HT := Lib.hid hT
  clear hT
  go_enter Tryd.func16, Tryd.ntmps16
  go_wp2
  refine wp_scope_jumps3 0 (ItemsJ x w) (fun a' _ => Sm.count (intOf (a'.tmps.getD 0 undef)).toNat) rfl ?_ ?_
  · intro hp
    have HP := Lib.hid hp
    clear hp
    have hmk := fun W => run_make (P := Tryd.prog) W 48 3 i0 (.int .i64 0) Tryd.underlying48 hi hz0 .i64 .i64 0 (Sm.count x : Nat) (by omega) (by omega) (by rw [hz2]; omega) (by omega)
    go_wp2_with (first
      | (go_at_call 21; refine (count_any _ _ hx).mono ?_; rintro e w' ⟨rfl, rfl⟩)
      | fail)
    go_step3
    rename_i hK
    apply hK
    refine HP.out _ _ ⟨x, _, [], _, _, _, _, _, _, _, _, _, _, _, _, _, _, _, _, rfl, hx, rfl, ?_, ?_⟩
    · exact World.ownsRow_made w _ _ (Nat.le_refl _) (by unfold maxLen; omega) (by simp [size_madeCells])
    · exact (Below.refl _ _).alloc (Nat.le_refl _) _
  · rintro a' wr ⟨y, l, done, u4, u5, u6, u7, u8, u9, u10, u11, u12, u13, u14, u15, u16, u17, u18, u19, rfl, hy, hdone, hown, hbel⟩
    have HD := Lib.hid hdone
    have HO := Lib.hid hown
    have hdl : done.length ≤ 64 := by
      have := congrArg List.length hdone
      rw [List.length_append] at this
      omega
    have HTr := Lib.hid (HT.out.below hbel HT.out.lt)
    clear hdone hown
    by_cases h0 : y = 0
    · subst h0
      go_wp2
      simp only [Exit.jump]
      go_ret
      refine ⟨l, rfl, ?_, hbel⟩
      have e : done = Sm.items x := by rw [← HD.out, Sm.items_zero, List.append_nil]
      rw [← e]; exact HO.out
    · have hy0 : ((y : Int) == 0) = false := by simpa using h0
      obtain ⟨hf1, hf2, hf3⟩ := Sm.first_spec h0 hy
      have Hc := Lib.hid (Sm.items_cons hy hf1 hf2 hf3)
      have Hn := Lib.hid (Sm.less_count hy hf1 hf2 hf3)
      clear hf2 hf3
      go_wp2_with (first
        | (go_at_call 25; refine (first_any _ _ hy h0 HTr.out).mono ?_; rintro e w' ⟨rfl, rfl⟩)
        | (at_builtin; refine wpList_append_own _ rfl _ _ 48 rfl w.heap.size 3 i0 (.int .i64 0) 1 8 Tryd.underlying48 hi hz0 hz1 hz2 rfl (by decide) _ _ _ rfl (HO.out.alloc _) ⟨wr.heap.size, 0, none⟩ 1 1 [.int .i64 (Sm.first y : Nat)] rfl rfl ?c1 ?c2 ?c3 ?c4 ?c5 ?_)
        | (go_at_call 43; refine (less_any _ _ _ hy (by omega) (by omega)).mono ?_; rintro e w' ⟨rfl, rfl⟩))
      case c1 =>
        intro j u hj
        match j, hj with
        | 0, hj => simp at hj; subst hj; simp [Addr.add]
      case c2 => intro u hu; simp at hu; subst hu; rfl
      case c3 => unfold maxLen; omega
      case c4 => omega
      case c5 => have := hbel.size; simp; omega
      intro v' w1 hown' hgrow _
      have HO' := Lib.hid hown'
      clear hown'
      go_wp2_with (go_at_call 43; refine (less_any _ _ _ hy (by omega) (by omega)).mono ?_; rintro e w' ⟨rfl, rfl⟩)
      go_step3
      have hbel' : Below w.heap.size w w1 := (hbel.alloc hbel.size _).grown hgrow (by have := hbel.size; simp; omega) (fun k hk => (HO.out.lt k hk).1)
      refine ⟨rfl, ⟨Sm.less y (Sm.first y : Nat), v', done ++ [Sm.first y], _, _, _, _, _, _, _, _, _, _, _, _, _, _, _, _, rfl, Sm.less_lt _ hy, ?_, ?_, hbel'⟩, ?_⟩
      · rw [List.append_assoc, ← HD.out, Hc.out]; rfl
      · have e : vals (done ++ [Sm.first y]) = vals done ++ [Value.int IntKind.i64 (Sm.first y : Nat)] := by simp [vals]
        rw [e, List.length_append]; exact HO'.out
      · show Sm.count (intOf (.int .u64 (Sm.less y (Sm.first y : Nat) : Nat))).toNat < Sm.count (intOf (.int .u64 (y : Nat))).toNat
        simp only [intOf, Int.toNat_natCast]
        have := Hn.out
        omega
end Go.Proofs.YtakoceablbgchaaDoor
