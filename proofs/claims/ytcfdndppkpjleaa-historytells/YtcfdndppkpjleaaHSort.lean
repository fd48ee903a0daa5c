/-
  The library's SortFunc at a row of steps, by their variables.
-/
import Derived.Test.YtcfdndppkpjleaaHGet
import Derived.Test.YtcfdndppkpjleaaSortLay
namespace Go.Proofs.Ytcfdndppkpjleaa.Hi
open Go.Shelf Go.RowKit Go.Lib Go.Sort
open Tx (Sp)
instance : Inhabited Sp := ⟨Tx.zero⟩
def cfS (a b : Sp) : Int := Lib.compareInt a.x b.x
theorem ltS (a b : Sp) : ltOf cfS a b = decide (a.x < b.x) := by
  unfold ltOf cfS Lib.compareInt
  by_cases h1 : a.x < b.x
  · simp [h1]
  · by_cases h2 : b.x < a.x <;> simp [h1, h2]
theorem swoS : SWO (ltOf cfS) where
  irrefl x := by rw [ltS]; simp
  trans x y z h1 h2 := by rw [ltS] at *; simp at *; omega
  ntrans x y z h1 h2 := by rw [ltS] at *; simp at *; omega
set_option maxHeartbeats 1000000 in
theorem stepsL_any (x y : Sp) (W : World) : Calls Try.prog 55 #[.agg (Tx.cellsOf x).toArray, .agg (Tx.cellsOf y).toArray] W fun e w' => e = .returned (.int .i64 (cfS x y)) ∧ ∃ q os', w' = grow (W.drewN q) os' := by
  have hcon := fun W' => AnyG.cmp_Compare_int Try.cmpI x.x y.x W'
  change ∀ W', Calls Try.prog 56 _ _ _ at hcon
  unfold cfS Tx.cellsOf
  generalize Lib.compareInt x.x y.x = r at hcon ⊢
  have HC := Lib.hid hcon
  clear hcon
  go_enter Try.func55, Try.ntmps55
  go_wp2_with (go_at_call 56; refine (HC.out _).mono ?_; rintro e w' ⟨rfl, rfl⟩)
  go_ret
  exact ⟨rfl, 0, _, by rw [alloc_eq_grow, alloc_eq_grow, grow_grow]; rfl⟩
theorem flatK_list (L : List Sp) : (flatK Tx.cellsOf 4 L.toArray).toList = Tx.flat L := by
  apply List.ext_getElem?
  intro t
  have hs : (flatK Tx.cellsOf 4 L.toArray).size = L.length * 4 := by simp
  by_cases h : t < L.length * 4
  · have hd : t / 4 < L.length := by omega
    have hm : t % 4 < 4 := Nat.mod_lt _ (by decide)
    have e : t / 4 * 4 + t % 4 = t := by omega
    have h1 := Tx.flat_at (L := L) (j := t / 4) (List.getElem?_eq_getElem hd) (t % 4) hm
    rw [e] at h1
    have h2 := get_flatK Tx.cellsOf 4 L.toArray t (by simpa using h)
    have hl : (Tx.cellsOf L[t / 4]).length = 4 := rfl
    rw [h1, Array.getElem?_toList, Array.getElem?_eq_getElem (by rw [hs]; exact h), List.getElem?_eq_getElem (by rw [hl]; exact hm)]
    rw [getElem!_pos _ t (by rw [hs]; exact h)] at h2
    rw [h2, getElem!_pos L.toArray (t / 4) (by simpa using hd), getElem!_pos _ (t % 4) (by rw [List.getElem_toArray, hl]; exact hm)]
    simp
  · rw [List.getElem?_eq_none (by rw [Array.length_toList, hs]; omega), List.getElem?_eq_none (by rw [Tx.flat_len]; omega)]
theorem holdsS {w : World} {g n cap base : Nat} {L : List Sp} (h : Tx.OwnVars w base 106 (.slice (some ⟨g, 0, none⟩) n cap) L) : HoldsK Tx.cellsOf 4 w g 0 L.toArray := by
  intro j hj
  have hj' : j < L.length * 4 := by simpa using hj
  have hr := h.row
  have e : (Tx.flat L)[j]? = some ((flatK Tx.cellsOf 4 L.toArray)[j]!) := by
    rw [← flatK_list, Array.getElem?_toList, getElem!_pos _ j hj, Array.getElem?_eq_getElem hj]
  rcases h.row.2 with ⟨e1, _⟩ | ⟨q, cp, cur, e1, _⟩
  · injection e1 with e1; cases e1
  · obtain ⟨e2, rfl, _⟩ := Value.slice.inj e1
    rw [Nat.zero_add]
    exact ⟨by rw [World.ownsRow.cellAt hr j hj', e]; rfl, World.ownsRow.frozenAt hr j⟩
theorem heap_sortedS {w : World} {g n : Nat} {os : Array Obj} {cur : Array Value} {e : TypeId} {fr : Nat × Nat} (d : Array Value) (hb : w.heap[g]? = some (.cells cur e fr)) :
    (grow (putRow id (Sort.ahead w n) g 0 d) os).heap[g]? = some (.cells (putCells id 0 d cur) e fr) := by
  have hg : g < w.heap.size := (Array.getElem?_eq_some_iff.1 hb).1
  rw [heap_grow_old _ _ (by simpa using hg)]
  simp [putRow, mapBlock, Sort.ahead, Array.getElem?_modify, hb, onCells]
theorem grownBy_sortedS {w : World} {g n : Nat} {os : Array Obj} (d : Array Value) : w.grownBy (grow (putRow id (Sort.ahead w n) g 0 d) os) (some g) := by
  refine ⟨rfl, rfl, rfl, by simp, fun k hk hne => ?_⟩
  rw [heap_grow_old _ _ (by simpa using hk)]
  have : g ≠ k := fun e => hne (by rw [e])
  simp [putRow, mapBlock, Sort.ahead, Array.getElem?_modify, this]
theorem take_putS (cur d : Array Value) (h : d.size ≤ cur.size) : (putCells id 0 d cur).toList.take d.size = d.toList := by
  apply List.ext_getElem?
  intro j
  by_cases hj : j < d.size
  · rw [List.getElem?_take_of_lt hj, Array.getElem?_toList]
    simp [putCells, hj, show j < cur.size by omega]
  · rw [List.getElem?_take_eq_none (by omega), List.getElem?_eq_none (by simp; omega)]
theorem sort_steps {g base n cap : Nat} {L : List Sp} {w : World} (hr : Tx.OwnVars w base 106 (.slice (some ⟨g, 0, none⟩) n cap) L) (hll : L.length ≤ 64) :
    Calls Try.prog 54 #[.slice (some ⟨g, 0, none⟩) n cap, .func (.func 55) #[] #[]] w fun e w' => e = .returned (.tuple #[]) ∧ ∃ M : List Sp, M.Perm L ∧ M.Pairwise (fun a b => a.x ≤ b.x) ∧ Tx.OwnVars w' base 106 (.slice (some ⟨g, 0, none⟩) n cap) M ∧ w.grownBy w' (some g) := by
  have hH := holdsS hr
  rcases hr.row.2 with ⟨e, _⟩ | ⟨q, cp, cur, e, hb, hg, hn, hm, hs, ht⟩
  · injection e with e; cases e
  obtain ⟨e1, rfl, rfl⟩ := Value.slice.inj e
  obtain rfl : g = q := by have := Option.some.inj e1; injection this
  have hgl : g < w.heap.size := (Array.getElem?_eq_some_iff.1 hg).1
  have eg : ∀ args w, (callFunc 55 args).run Try.prog w = .ok (.enter 55 args) w := enters_of Try.func55 (by kernel_rfl) rfl
  have hcmp : CmpLays Try.prog 55 #[] Tx.cellsOf 4 cfS g 0 L.toArray.size w := fun _ _ _ _ x y => stepsL_any x y _
  have hcon := AnyQ.slices_SortFunc Try.sortP 4 Try.isAgg106 Try.sizeOf106 Tx.cellsOf (fun _ => rfl) (fun x v hv => by simp [Tx.cellsOf] at hv; rcases hv with rfl | rfl | rfl | rfl <;> rfl) cfS swoS 55 #[] g 0 cap L.toArray w eg hcmp hH hgl (by rw [List.size_toArray]; omega)
  change Calls Try.prog 54 _ _ _ at hcon
  rw [List.size_toArray] at hcon
  refine hcon.mono ?_
  rintro e w' ⟨rfl, d', m, os, hp, hso, rfl⟩
  obtain ⟨hp1, _, hp3⟩ := hp
  rw [List.size_toArray] at hp1
  have hd : d'.toList.length = L.length := by simpa using hp1
  have hperm : d'.toList.Perm L := by
    have hds : d'.size = L.length := by simpa using hp1
    have e1 : d'.extract 0 L.length = d' := by rw [← hds]; exact Array.extract_size
    have e2 : L.toArray.extract 0 L.length = L.toArray := by
      have : L.length = L.toArray.size := by simp
      rw [this]; exact Array.extract_size
    rw [e1, e2] at hp3
    exact hp3
  have hfl : (flatK Tx.cellsOf 4 d').toList = Tx.flat d'.toList := flatK_list d'.toList
  have hfs : (flatK Tx.cellsOf 4 d').size = L.length * 4 := by rw [← Array.length_toList, hfl, Tx.flat_len, hd]
  refine ⟨rfl, d'.toList, hperm, ?_, ⟨⟨by rw [Tx.flat_len], .inr ⟨g, cap, _, by rw [hd], hb, heap_sortedS _ hg, by rw [hd]; exact hn, hm, by simp [putCells, hs], ?_⟩⟩, fun v hv => hr.ok v (hperm.mem_iff.1 hv)⟩, grownBy_sortedS _⟩
  · rw [List.pairwise_iff_getElem]
    intro i j hi hj hij
    have := hso i j (Nat.zero_le _) hij (by rw [← hd]; exact hj)
    rw [ltS] at this
    have h1 : d'[i]! = d'.toList[i] := by simp at hi; simp [hi]
    have h2 : d'[j]! = d'.toList[j] := by simp at hj; simp [hj]
    rw [h1, h2] at this
    have := of_decide_eq_false this
    omega
  · have := take_putS cur (flatK Tx.cellsOf 4 d') (by rw [hfs, hs]; exact Nat.mul_le_mul_right _ hn)
    rw [hfs] at this
    rw [hd, this, hfl]
end Go.Proofs.Ytcfdndppkpjleaa.Hi
