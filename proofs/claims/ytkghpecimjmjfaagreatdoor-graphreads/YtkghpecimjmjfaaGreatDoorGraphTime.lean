/-
  The walk of GraphTime.
-/
import Derived.Test.YtkghpecimjmjfaaGreatDoorGraphLegal
import Derived.Test.YtkghpecimjmjfaaGreatDoorGraphTimeM
namespace Go.Proofs.YtkghpecimjmjfaaGreatDoor.En
open Go.RowKit
attribute [local go_sem ↓] Go.wp_at_zero Go.wp_at_succ
/- times in a map -/
def mapF (f : Int → Nat) : Int → Option Value := fun x => if f x = 0 then none else some (.int .i64 (f x : Nat))
theorem mapF_get (f : Int → Nat) (x : Int) : (mapF f x).getD (.int .i64 0) = .int .i64 (f x : Nat) := by
  unfold mapF
  by_cases h : f x = 0
  · rw [if_pos h, h]; rfl
  · rw [if_neg h]; rfl
theorem mapF_put {f : Int → Nat} {x : Int} {v : Nat} (hv : 0 < v) (y : Int) : (if y = x then some (Value.int .i64 (v : Nat)) else mapF f y) = mapF (fu f x v) y := by
  unfold mapF fu
  by_cases h : y = x
  · rw [if_pos h, if_pos h, if_neg (by omega)]
  · rw [if_neg h, if_neg h]
theorem mapF_some {f : Int → Nat} {x : Int} : (mapF f x).isSome = decide (f x ≠ 0) := by
  unfold mapF
  by_cases h : f x = 0
  · rw [if_pos h]; simp [h]
  · rw [if_neg h]; simp [h]
/-- a map of times. -/
def TMap (W : World) (b n sz : Nat) (f : Int → Nat) : Prop := Tx.MapV W b n sz (.int .i64 0) (mapF f)
theorem zero_int (w : World) : (zeroValue 3).run Tryz.prog w = .ok (.int .i64 0) w := by
  have h : (Tryz.prog.info? 3).map (fun i => (i.zero, i.size)) = some (some (.int .i64 0), 1) := by kernel_rfl
  exact (zero_of_info h).1 w
section
variable {W W' : World} {b n sz : Nat} {f : Int → Nat}
theorem TMap.lt (h : TMap W b n sz f) : b < W.heap.size := Tx.MapV.lt h
theorem TMap.obj (h : TMap W b n sz f) : ∃ es clock, W.heap[b]? = some (.map es clock) := MapV.obj h
theorem TMap.other (h : TMap W b n sz f) (e : W'.heap[b]? = W.heap[b]?) : TMap W' b n sz f := MapV.other h e
theorem TMap.below (h : TMap W b n sz f) (hb : Below W.heap.size W W') : TMap W' b n sz f := h.other (hb.block b h.lt)
theorem TMap.look (h : TMap W b n sz f) {x : Int} (hx : St.i64p x) : (Instr.lookup 73 (.map (some b)) (.int .i64 x) false).run Tryz.prog W = .ok (.int .i64 (f x : Nat)) W := by
  have := MapV.lookF h Tryz.underlying73 (zero_int W) hx
  rw [mapF_get] at this
  exact this
theorem TMap.len (h : TMap W b n sz f) (ty : TypeId) : (Builtin.len_ #[73] ty #[.map (some b)]).run Tryz.prog W = .ok (.int .i64 (sz : Nat)) W := by
  obtain ⟨D, ho, _, hs, _⟩ := h
  have := World.ownsMap.len ho Tryz.underlying73 ty
  rw [hs] at this
  exact this
theorem TMap.put {x : Int} {v n' sz' : Nat} (hv : 0 < v) (h : Tx.MapV W b n' sz' (.int .i64 0) (fun y => if y = x then some (.int .i64 (v : Nat)) else mapF f y)) : TMap W b n' sz' (fu f x v) := Tx.MapV.congr h (mapF_put hv)
end
theorem tmap_made (W : World) : TMap (W.alloc (.map #[] 0)) W.heap.size 0 0 (fun _ => 0) := Tx.MapV.congr (Tx.mapV_made W (.int .i64 0)) (fun _ => rfl)
/- how many have a time -/
def cnt (f : Int → Nat) : Nat → Nat
  | 0 => 0
  | m + 1 => cnt f m + if 0 < f (m : Nat) then 1 else 0
theorem cnt_le (f : Int → Nat) : ∀ m, cnt f m ≤ m
  | 0 => Nat.le_refl _
  | m + 1 => by have := cnt_le f m; unfold cnt; split <;> omega
theorem cnt_zero : ∀ m, cnt (fun _ => 0) m = 0
  | 0 => rfl
  | m + 1 => by unfold cnt; rw [cnt_zero m]; rfl
theorem cnt_far {f : Int → Nat} {x : Int} {v : Nat} : ∀ m : Nat, (m : Int) ≤ x → cnt (fu f x v) m = cnt f m
  | 0, _ => rfl
  | m + 1, h => by
    unfold cnt
    rw [cnt_far m (by omega)]
    have : fu f x v (m : Nat) = f (m : Nat) := by unfold fu; rw [if_neg (by omega)]
    rw [this]
theorem cnt_put {f : Int → Nat} {x : Int} {v : Nat} (hv : 0 < v) (h0 : f x = 0) (hx : 0 ≤ x) : ∀ m : Nat, x < (m : Int) → cnt (fu f x v) m = cnt f m + 1
  | 0, h => by omega
  | m + 1, h => by
    unfold cnt
    by_cases e : x = (m : Nat)
    · rw [cnt_far m (by omega)]
      have h1 : fu f x v (m : Nat) = v := by unfold fu; rw [if_pos e.symm]
      have h2 : f (m : Nat) = 0 := by rw [← e]; exact h0
      rw [h1, h2, if_pos hv, if_neg (by omega)]
    · rw [cnt_put hv h0 hx m (by omega)]
      have : fu f x v (m : Nat) = f (m : Nat) := by unfold fu; rw [if_neg (fun h => e h.symm)]
      rw [this]; omega
/- the ends behind a look -/
def enS (k : Nat) (en : Int → Nat) (x : Ent) : Int → Nat := if x.ovr = true ∧ en x.id = 0 then fu en x.id k else en
def enL (k : Nat) (en : Int → Nat) (l : List Ent) : Int → Nat := l.foldl (enS k) en
theorem enL_snoc {k : Nat} {en : Int → Nat} {l : List Ent} {j : Nat} {x : Ent} (h : l[j]? = some x) : enL k en (l.take (j + 1)) = enS k (enL k en (l.take j)) x := by
  unfold enL
  rw [St.take_step h, List.foldl_append]; rfl
theorem enL_spec {k : Nat} (hk : 0 < k) : ∀ (l : List Ent) (en : Int → Nat), (∀ id, 0 < en id → enL k en l id = en id) ∧ (∀ id, en id = 0 → enL k en l id = 0 ∨ (enL k en l id = k ∧ ∃ x ∈ l, x.ovr = true ∧ x.id = id)) ∧ ∀ x ∈ l, x.ovr = true → 0 < enL k en l x.id
  | [], en => ⟨fun _ _ => rfl, fun _ h => .inl h, fun _ h => absurd h List.not_mem_nil⟩
  | x :: l, en => by
    have ih := enL_spec hk l (enS k en x)
    have e : enL k en (x :: l) = enL k (enS k en x) l := rfl
    rw [e]
    by_cases h : x.ovr = true ∧ en x.id = 0
    · have hs : enS k en x = fu en x.id k := by unfold enS; rw [if_pos h]
      rw [hs] at ih ⊢
      refine ⟨fun id hid => ?_, fun id hid => ?_, fun y hy ho => ?_⟩
      · have hne : id ≠ x.id := fun e => by rw [e, h.2] at hid; omega
        have h1 : fu en x.id k id = en id := by unfold fu; rw [if_neg hne]
        rw [ih.1 id (by rw [h1]; exact hid), h1]
      · by_cases hi : id = x.id
        · have h1 : fu en x.id k id = k := by unfold fu; rw [if_pos hi]
          right
          rw [ih.1 id (by rw [h1]; exact hk), h1]
          exact ⟨rfl, x, by simp, h.1, hi.symm⟩
        · have h1 : fu en x.id k id = en id := by unfold fu; rw [if_neg hi]
          rcases ih.2.1 id (by rw [h1]; exact hid) with h2 | ⟨h2, y, hy, h3⟩
          · exact .inl h2
          · exact .inr ⟨h2, y, by simp [hy], h3⟩
      · rcases List.mem_cons.1 hy with rfl | hy
        · have h1 : fu en y.id k y.id = k := by unfold fu; rw [if_pos rfl]
          rw [ih.1 y.id (by rw [h1]; exact hk), h1]; exact hk
        · exact ih.2.2 y hy ho
    · have hs : enS k en x = en := by unfold enS; rw [if_neg h]
      rw [hs] at ih ⊢
      refine ⟨ih.1, fun id hid => ?_, fun y hy ho => ?_⟩
      · rcases ih.2.1 id hid with h2 | ⟨h2, y, hy, h3⟩
        · exact .inl h2
        · exact .inr ⟨h2, y, by simp [hy], h3⟩
      · rcases List.mem_cons.1 hy with rfl | hy
        · have h1 : 0 < en y.id := by
            rcases Nat.eq_zero_or_pos (en y.id) with h2 | h2
            · exact absurd ⟨ho, h2⟩ h
            · exact h2
          rw [ih.1 _ h1]; exact h1
        · exact ih.2.2 y hy ho
theorem enL_ends {k : Nat} (hk : 0 < k) (g : Eng) (en : Int → Nat) : Ends k g en (enL k en (g.log ++ rest g)) := by
  obtain ⟨h1, h2, h3⟩ := enL_spec hk (g.log ++ rest g) en
  exact ⟨h1, h2, h3⟩
end Go.Proofs.YtkghpecimjmjfaaGreatDoor.En
