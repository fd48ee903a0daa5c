/-
  DERIVED: THE SHELF's CONTRACTS AT THIS DUMP, IN PLAIN WORDS (tools/lay-plain.mjs out of 'YtaonepbongbhoaaShelf.lean', which tools/lay-shelf.mjs wrote): THE SAME DECLARATIONS UNDER THE SAME NAMES: 'import', 'namespace', 'open', 'def', 'theorem' AND NOTHING ELSE: no command of the shelf's: FOR A HAND-IN. Each laying: the table of numbers ('.._ren') and one theorem, a field a fact of the dump's own or the kernel's comparison; each contract: ONE APPLICATION.
  The library's SortFunc at a row of steps, by their variables.
  The steps of an entry off a map of events' numbers, in whatever order the map was gone through.
  The contract of steps: what was done at the events of a map's numbers, by rising variables.
  The contract of Entries.
-/
import Derived.Shelf.SlSortCmp.WholeK
import Derived.Shelf.SlicesG.Cmp
import Derived.Ground.SlsfProg
import Derived.Ground.SlgcProg
import Derived.Shelf.SlicesG.Delete
import Derived.Ground.SlgnProg
import Derived.Test.YtaonepbongbhoaaProg
import Derived.Test.YtaonepbongbhoaaKG
import Derived.Test.YtaonepbongbhoaaKA
import Derived.Deep.MidRow
namespace Go.Proofs
open Go.Shelf
def Try.sortP_ren : Go.Shelf.Ren := ⟨fun | 6 => 52 | 15 => 66 | 14 => 65 | 28 => 81 | 29 => 82 | 20 => 73 | 21 => 74 | 22 => 75 | 23 => 76 | 24 => 77 | 25 => 78 | 26 => 79 | 27 => 80 | 46 => 88 | 47 => 89 | 48 => 90 | 49 => 91 | 50 => 92 | 57 => 97 | n => n, fun | 22 => 42 | 24 => 48 | 25 => 96 | 3 => 3 | 39 => 110 | 0 => 0 | 53 => 126 | 55 => 33 | 4 => 4 | 46 => 120 | 45 => 119 | 50 => 108 | 5 => 5 | 9 => 9 | 66 => 133 | 70 => 137 | 76 => 142 | 77 => 143 | n => n, fun | n => n⟩
theorem Try.sortP : Go.Proofs.SlLaysF0.n6 Try.prog Try.sortP_ren := {
  mixed := by kernel_rfl
  f6 := ⟨Try.f52.name, by decide, Try.func52.trans (congrArg some (by kernel_rfl))⟩
  f14 := ⟨Try.f65.name, by decide, Try.func65.trans (congrArg some (by kernel_rfl))⟩
  f15 := Try.func66.trans (congrArg some (by kernel_rfl))
  f20 := ⟨Try.f73.name, by decide, Try.func73.trans (congrArg some (by kernel_rfl))⟩
  f21 := ⟨Try.f74.name, by decide, Try.func74.trans (congrArg some (by kernel_rfl))⟩
  f22 := ⟨Try.f75.name, by decide, Try.func75.trans (congrArg some (by kernel_rfl))⟩
  f23 := ⟨Try.f76.name, by decide, Try.func76.trans (congrArg some (by kernel_rfl))⟩
  f24 := ⟨Try.f77.name, by decide, Try.func77.trans (congrArg some (by kernel_rfl))⟩
  f25 := ⟨Try.f78.name, by decide, Try.func78.trans (congrArg some (by kernel_rfl))⟩
  f26 := ⟨Try.f79.name, by decide, Try.func79.trans (congrArg some (by kernel_rfl))⟩
  f27 := ⟨Try.f80.name, by decide, Try.func80.trans (congrArg some (by kernel_rfl))⟩
  f28 := Try.func81.trans (congrArg some (by kernel_rfl))
  f29 := Try.func82.trans (congrArg some (by kernel_rfl))
  f46 := ⟨Try.f88.name, by decide, Try.func88.trans (congrArg some (by kernel_rfl))⟩
  f47 := Try.func89.trans (congrArg some (by kernel_rfl))
  f48 := Try.func90.trans (congrArg some (by kernel_rfl))
  f49 := ⟨Try.f91.name, by decide, Try.func91.trans (congrArg some (by kernel_rfl))⟩
  f50 := ⟨Try.f92.name, by decide, Try.func92.trans (congrArg some (by kernel_rfl))⟩
  f57 := ⟨Try.f97.name, by decide, Try.func97.trans (congrArg some (by kernel_rfl))⟩
  t0 := Try.underlying0
  a0 := Try.isAgg0
  z0 := Try.sizeOf0
  v0 := Try.zeroValue0
  t3 := Try.underlying3
  a3 := Try.isAgg3
  z3 := Try.sizeOf3
  v3 := Try.zeroValue3
  t4 := Try.underlying4
  a4 := Try.isAgg4
  z4 := Try.sizeOf4
  v4 := Try.zeroValue4
  t5 := Try.underlying5
  a5 := Try.isAgg5
  z5 := Try.sizeOf5
  v5 := Try.zeroValue5
  t9 := Try.underlying9
  a9 := Try.isAgg9
  z9 := Try.sizeOf9
  v9 := Try.zeroValue9
  t22 := Try.underlying42
  a22 := Try.isAgg42
  z22 := Try.sizeOf42
  v22 := Try.zeroValue42
  t25 := Try.underlying96
  a25 := Try.isAgg96
  z25 := Try.sizeOf96
  v25 := Try.zeroValue96
  t39 := Try.underlying110
  a39 := Try.isAgg110
  z39 := Try.sizeOf110
  v39 := Try.zeroValue110
  t45 := Try.underlying119
  a45 := Try.isAgg119
  z45 := Try.sizeOf119
  v45 := Try.zeroValue119
  t46 := Try.underlying120
  a46 := Try.isAgg120
  z46 := Try.sizeOf120
  v46 := Try.zeroValue120
  t50 := Try.underlying108
  a50 := Try.isAgg108
  z50 := Try.sizeOf108
  v50 := Try.zeroValue108
  t53 := Try.underlying126
  a53 := Try.isAgg126
  z53 := Try.sizeOf126
  v53 := Try.zeroValue126
  t55 := Try.underlying33
  a55 := Try.isAgg33
  z55 := Try.sizeOf33
  v55 := Try.zeroValue33
  t66 := Try.underlying133
  a66 := Try.isAgg133
  z66 := Try.sizeOf133
  v66 := Try.zeroValue133
  t70 := Try.underlying137
  a70 := Try.isAgg137
  z70 := Try.sizeOf137
  v70 := Try.zeroValue137
  t76 := Try.underlying142
  a76 := Try.isAgg142
  z76 := Try.sizeOf142
  v76 := Try.zeroValue142
  t77 := Try.underlying143
  a77 := Try.isAgg143
  z77 := Try.sizeOf143
  v77 := Try.zeroValue143 }
def Try.cmpI_ren : Go.Shelf.Ren := ⟨fun | 5 => 54 | 7 => 67 | n => n, fun | 22 => 3 | 3 => 3 | 4 => 4 | n => n, fun | n => n⟩
theorem Try.cmpI : Go.Proofs.SlLaysC2.n5 Try.prog Try.cmpI_ren := {
  mixed := by kernel_rfl
  f5 := ⟨Try.f54.name, by decide, Try.func54.trans (congrArg some (by kernel_rfl))⟩
  f7 := ⟨Try.f67.name, by decide, Try.func67.trans (congrArg some (by kernel_rfl))⟩
  t3 := Try.underlying3
  a3 := Try.isAgg3
  z3 := Try.sizeOf3
  v3 := Try.zeroValue3
  t4 := Try.underlying4
  a4 := Try.isAgg4
  z4 := Try.sizeOf4
  v4 := Try.zeroValue4
  t22 := Try.underlying3
  a22 := Try.isAgg3
  z22 := Try.sizeOf3
  v22 := Try.zeroValue3 }
def Try.delI_ren : Go.Shelf.Ren := ⟨fun | 45 => 10 | n => n, fun | 22 => 26 | 23 => 3 | 3 => 3 | 4 => 4 | 0 => 0 | n => n, fun | n => n⟩
theorem Try.delI : Go.Proofs.SlLaysN.n45 Try.prog Try.delI_ren := {
  mixed := by kernel_rfl
  f45 := ⟨Try.f10.name, by decide, Try.func10.trans (congrArg some (by kernel_rfl))⟩
  t0 := Try.underlying0
  a0 := Try.isAgg0
  z0 := Try.sizeOf0
  v0 := Try.zeroValue0
  t3 := Try.underlying3
  a3 := Try.isAgg3
  z3 := Try.sizeOf3
  v3 := Try.zeroValue3
  t4 := Try.underlying4
  a4 := Try.isAgg4
  z4 := Try.sizeOf4
  v4 := Try.zeroValue4
  t22 := Try.underlying26
  a22 := Try.isAgg26
  z22 := Try.sizeOf26
  v22 := Try.zeroValue26
  t23 := Try.underlying3
  a23 := Try.isAgg3
  z23 := Try.sizeOf3
  v23 := Try.zeroValue3
  i23 := by kernel_rfl }
end Go.Proofs
namespace Go.Proofs.Ytaonepbongbhoaa.Hi
open Go.Shelf Go.RowKit Go.Lib Go.Sort
open Tx (Sp)
instance : Inhabited Sp := ⟨Tx.zero⟩
def cfS (a b : Sp) : Int := Lib.compareInt a.x b.x
theorem ltS (a b : Sp) : ltOf cfS a b = decide (a.x < b.x) := by
  unfold ltOf cfS Lib.compareInt
  by_cases h1 : a.x < b.x
  · simp [h1]
  · by_cases h2 : b.x < a.x <;> simp [h1, h2]
theorem swoS : SWO (ltOf cfS) where
  irrefl x := by rw [ltS]; simp
  trans x y z h1 h2 := by rw [ltS] at *; simp at *; omega
  ntrans x y z h1 h2 := by rw [ltS] at *; simp at *; omega
set_option maxHeartbeats 1000000 in
theorem stepsL_any (x y : Sp) (W : World) : Calls Try.prog 53 #[.agg (Tx.cellsOf x).toArray, .agg (Tx.cellsOf y).toArray] W fun e w' => e = .returned (.int .i64 (cfS x y)) ∧ ∃ q os', w' = grow (W.drewN q) os' := by
  have hcon := fun W' => AnyG.cmp_Compare_int Try.cmpI x.x y.x W'
  change ∀ W', Calls Try.prog 54 _ _ _ at hcon
  unfold cfS Tx.cellsOf
  generalize Lib.compareInt x.x y.x = r at hcon ⊢
  have HC := Lib.hid hcon
  clear hcon
  go_enter Try.func53, Try.ntmps53
  go_wp2_with (go_at_call 54; refine (HC.out _).mono ?_; rintro e w' ⟨rfl, rfl⟩)
  go_ret
  exact ⟨rfl, 0, _, by rw [alloc_eq_grow, alloc_eq_grow, grow_grow]; rfl⟩
theorem flatK_list (L : List Sp) : (flatK Tx.cellsOf 4 L.toArray).toList = Tx.flat L := by
  apply List.ext_getElem?
  intro t
  have hs : (flatK Tx.cellsOf 4 L.toArray).size = L.length * 4 := by simp
  by_cases h : t < L.length * 4
  · have hd : t / 4 < L.length := by omega
    have hm : t % 4 < 4 := Nat.mod_lt _ (by decide)
    have e : t / 4 * 4 + t % 4 = t := by omega
    have h1 := Tx.flat_at (L := L) (j := t / 4) (List.getElem?_eq_getElem hd) (t % 4) hm
    rw [e] at h1
    have h2 := get_flatK Tx.cellsOf 4 L.toArray t (by simpa using h)
    have hl : (Tx.cellsOf L[t / 4]).length = 4 := rfl
    rw [h1, Array.getElem?_toList, Array.getElem?_eq_getElem (by rw [hs]; exact h), List.getElem?_eq_getElem (by rw [hl]; exact hm)]
    rw [getElem!_pos _ t (by rw [hs]; exact h)] at h2
    rw [h2, getElem!_pos L.toArray (t / 4) (by simpa using hd), getElem!_pos _ (t % 4) (by rw [List.getElem_toArray, hl]; exact hm)]
    simp
  · rw [List.getElem?_eq_none (by rw [Array.length_toList, hs]; omega), List.getElem?_eq_none (by rw [Tx.flat_len]; omega)]
theorem holdsS {w : World} {g n cap base : Nat} {L : List Sp} (h : Tx.OwnVars w base 48 (.slice (some ⟨g, 0, none⟩) n cap) L) : HoldsK Tx.cellsOf 4 w g 0 L.toArray := by
  intro j hj
  have hj' : j < L.length * 4 := by simpa using hj
  have hr := h.row
  have e : (Tx.flat L)[j]? = some ((flatK Tx.cellsOf 4 L.toArray)[j]!) := by
    rw [← flatK_list, Array.getElem?_toList, getElem!_pos _ j hj, Array.getElem?_eq_getElem hj]
  rcases h.row.2 with ⟨e1, _⟩ | ⟨q, cp, cur, e1, _⟩
  · injection e1 with e1; cases e1
  · obtain ⟨e2, rfl, _⟩ := Value.slice.inj e1
    rw [Nat.zero_add]
    exact ⟨by rw [World.ownsRow.cellAt hr j hj', e]; rfl, World.ownsRow.frozenAt hr j⟩
theorem heap_sortedS {w : World} {g n : Nat} {os : Array Obj} {cur : Array Value} {e : TypeId} {fr : Nat × Nat} (d : Array Value) (hb : w.heap[g]? = some (.cells cur e fr)) :
    (grow (putRow id (Sort.ahead w n) g 0 d) os).heap[g]? = some (.cells (putCells id 0 d cur) e fr) := by
  have hg : g < w.heap.size := (Array.getElem?_eq_some_iff.1 hb).1
  rw [heap_grow_old _ _ (by simpa using hg)]
  simp [putRow, mapBlock, Sort.ahead, Array.getElem?_modify, hb, onCells]
theorem grownBy_sortedS {w : World} {g n : Nat} {os : Array Obj} (d : Array Value) : w.grownBy (grow (putRow id (Sort.ahead w n) g 0 d) os) (some g) := by
  refine ⟨rfl, rfl, rfl, by simp, fun k hk hne => ?_⟩
  rw [heap_grow_old _ _ (by simpa using hk)]
  have : g ≠ k := fun e => hne (by rw [e])
  simp [putRow, mapBlock, Sort.ahead, Array.getElem?_modify, this]
theorem take_putS (cur d : Array Value) (h : d.size ≤ cur.size) : (putCells id 0 d cur).toList.take d.size = d.toList := by
  apply List.ext_getElem?
  intro j
  by_cases hj : j < d.size
  · rw [List.getElem?_take_of_lt hj, Array.getElem?_toList]
    simp [putCells, hj, show j < cur.size by omega]
  · rw [List.getElem?_take_eq_none (by omega), List.getElem?_eq_none (by simp; omega)]
theorem sort_steps {g base n cap : Nat} {L : List Sp} {w : World} (hr : Tx.OwnVars w base 48 (.slice (some ⟨g, 0, none⟩) n cap) L) (hll : L.length ≤ 64) :
    Calls Try.prog 52 #[.slice (some ⟨g, 0, none⟩) n cap, .func (.func 53) #[] #[]] w fun e w' => e = .returned (.tuple #[]) ∧ ∃ M : List Sp, M.Perm L ∧ M.Pairwise (fun a b => a.x ≤ b.x) ∧ Tx.OwnVars w' base 48 (.slice (some ⟨g, 0, none⟩) n cap) M ∧ w.grownBy w' (some g) := by
  have hH := holdsS hr
  rcases hr.row.2 with ⟨e, _⟩ | ⟨q, cp, cur, e, hb, hg, hn, hm, hs, ht⟩
  · injection e with e; cases e
  obtain ⟨e1, rfl, rfl⟩ := Value.slice.inj e
  obtain rfl : g = q := by have := Option.some.inj e1; injection this
  have hgl : g < w.heap.size := (Array.getElem?_eq_some_iff.1 hg).1
  have eg : ∀ args w, (callFunc 53 args).run Try.prog w = .ok (.enter 53 args) w := enters_of Try.func53 (by kernel_rfl) rfl
  have hcmp : CmpLays Try.prog 53 #[] Tx.cellsOf 4 cfS g 0 L.toArray.size w := fun _ _ _ _ x y => stepsL_any x y _
  have hcon := AnyQ.slices_SortFunc Try.sortP 4 Try.isAgg48 Try.sizeOf48 Tx.cellsOf (fun _ => rfl) (fun x v hv => by simp [Tx.cellsOf] at hv; rcases hv with rfl | rfl | rfl | rfl <;> rfl) cfS swoS 53 #[] g 0 cap L.toArray w eg hcmp hH hgl (by rw [List.size_toArray]; omega)
  change Calls Try.prog 52 _ _ _ at hcon
  rw [List.size_toArray] at hcon
  refine hcon.mono ?_
  rintro e w' ⟨rfl, d', m, os, hp, hso, rfl⟩
  obtain ⟨hp1, _, hp3⟩ := hp
  rw [List.size_toArray] at hp1
  have hd : d'.toList.length = L.length := by simpa using hp1
  have hperm : d'.toList.Perm L := by
    have hds : d'.size = L.length := by simpa using hp1
    have e1 : d'.extract 0 L.length = d' := by rw [← hds]; exact Array.extract_size
    have e2 : L.toArray.extract 0 L.length = L.toArray := by
      have : L.length = L.toArray.size := by simp
      rw [this]; exact Array.extract_size
    rw [e1, e2] at hp3
    exact hp3
  have hfl : (flatK Tx.cellsOf 4 d').toList = Tx.flat d'.toList := flatK_list d'.toList
  have hfs : (flatK Tx.cellsOf 4 d').size = L.length * 4 := by rw [← Array.length_toList, hfl, Tx.flat_len, hd]
  refine ⟨rfl, d'.toList, hperm, ?_, ⟨⟨by rw [Tx.flat_len], .inr ⟨g, cap, _, by rw [hd], hb, heap_sortedS _ hg, by rw [hd]; exact hn, hm, by simp [putCells, hs], ?_⟩⟩, fun v hv => hr.ok v (hperm.mem_iff.1 hv)⟩, grownBy_sortedS _⟩
  · rw [List.pairwise_iff_getElem]
    intro i j hi hj hij
    have := hso i j (Nat.zero_le _) hij (by rw [← hd]; exact hj)
    rw [ltS] at this
    have h1 : d'[i]! = d'.toList[i] := by simp at hi; simp [hi]
    have h2 : d'[j]! = d'.toList[j] := by simp at hj; simp [hj]
    rw [h1, h2] at this
    have := of_decide_eq_false this
    omega
  · have := take_putS cur (flatK Tx.cellsOf 4 d') (by rw [hfs, hs]; exact Nat.mul_le_mul_right _ hn)
    rw [hfs] at this
    rw [hd, this, hfl]
end Go.Proofs.Ytaonepbongbhoaa.Hi
namespace Go.Proofs.Ytaonepbongbhoaa.Hi
open Tx (i64p right Sp rise)
/-- the step that the event of that number is. -/
def stOf (L : List Ev) (x : Int) (k : Nat) : Sp := match L[k]? with
  | some e => ⟨x, e.k, e.n, decide (e.kd = 2)⟩
  | none => Tx.zero
/-- those that are no longer to come. -/
def gl (L : List Ev) (f : Int → Option Nat) (left : Int → Bool) (x : Int) : Option Sp := if left x = true then none else (f x).map (stOf L x)
def stepsF (L : List Ev) (f : Int → Option Nat) : List Sp := rise (fun x => (f x).map (stOf L x)) 64
/-- what a map of a course says. -/
def FitL (L : List Ev) (f : Int → Option Nat) : Prop := ∀ x k, f x = some k → 0 ≤ x ∧ x < 64 ∧ k < L.length
theorem stOf_x {L : List Ev} {k : Nat} (h : k < L.length) (x : Int) : (stOf L x k).x = x := by
  unfold stOf; rw [List.getElem?_eq_getElem h]
theorem perm_sorted {α : Type} {le : α → α → Prop} : ∀ {l k : List α}, l.Perm k → l.Pairwise le → k.Pairwise le → (∀ a ∈ l, ∀ b ∈ l, le a b → le b a → a = b) → l = k
  | [], k, h, _, _, _ => (List.nil_perm.1 h).symm ▸ rfl
  | a :: l, k, h, h1, h2, ha => by
    rcases k with _ | ⟨b, k⟩
    · exact absurd h.symm (by simp)
    · rw [List.pairwise_cons] at h1 h2
      have hb : b ∈ a :: l := h.mem_iff.2 (by simp)
      have ha' : a ∈ b :: k := h.mem_iff.1 (by simp)
      have e : a = b := by
        rcases List.mem_cons.1 hb with e | hb'
        · exact e.symm
        · rcases List.mem_cons.1 ha' with e | ha''
          · exact e
          · exact ha a (by simp) b hb (h1.1 b hb') (h2.1 a ha'')
      subst e
      rw [perm_sorted (List.Perm.cons_inv h) h1.2 h2.2 (fun x hx y hy => ha x (by simp [hx]) y (by simp [hy]))]
theorem mem_rise_iff {f : Int → Option Sp} {k : Nat} {s : Sp} : s ∈ rise f k ↔ ∃ x : Nat, x < k ∧ f (x : Nat) = some s := by
  unfold rise
  rw [List.mem_filterMap]
  exact ⟨fun ⟨x, hx, h⟩ => ⟨x, List.mem_range.1 hx, h⟩, fun ⟨x, hx, h⟩ => ⟨x, List.mem_range.2 hx, h⟩⟩
/-- a row by rising variables. -/
theorem rise_lt {f : Int → Option Sp} (hf : ∀ x s, f x = some s → s.x = x) (k : Nat) : (rise f k).Pairwise fun a b => a.x < b.x := by
  induction k with
  | zero => simp [rise]
  | succ k ih =>
    cases h : f ((k : Nat) : Int) with
    | none => rw [Tx.rise_succ_none h]; exact ih
    | some s =>
      rw [Tx.rise_succ_some h, List.pairwise_append]
      refine ⟨ih, by simp, fun a ha b hb => ?_⟩
      rw [List.mem_singleton] at hb
      subst hb
      obtain ⟨x, hx, hfx⟩ := mem_rise_iff.1 ha
      rw [hf _ _ hfx, hf _ _ h]
      omega
theorem gl_x {L : List Ev} {f : Int → Option Nat} (hf : FitL L f) (left : Int → Bool) (x : Int) (s : Sp) (h : gl L f left x = some s) : s.x = x := by
  unfold gl at h
  split at h
  · cases h
  · rw [Option.map_eq_some_iff] at h
    obtain ⟨k, hk, rfl⟩ := h
    exact stOf_x (hf x k hk).2.2 x
theorem rise_nodup {f : Int → Option Sp} (hf : ∀ x s, f x = some s → s.x = x) (k : Nat) : (rise f k).Nodup := by
  refine (rise_lt hf k).imp fun {a b} h e => ?_
  subst e; omega
/-- one more has come. -/
theorem gl_step {L : List Ev} {f : Int → Option Nat} {left : Int → Bool} {S : List Sp} {x : Int} {k : Nat} (hf : FitL L f) (h : S.Perm (rise (gl L f left) 64)) (hl : left x = true) (hk : f x = some k) :
    (S ++ [stOf L x k]).Perm (rise (gl L f (fun z => left z && !decide (z = x))) 64) := by
  have hx := hf x k hk
  have n1 := rise_nodup (gl_x hf left) 64
  have n2 := rise_nodup (gl_x hf (fun z => left z && !decide (z = x))) 64
  have hnot : stOf L x k ∉ S := fun hm => by
    obtain ⟨y, _, hy⟩ := mem_rise_iff.1 (h.mem_iff.1 hm)
    have e1 := gl_x hf left _ _ hy
    rw [stOf_x hx.2.2] at e1
    unfold gl at hy
    rw [← e1, if_pos hl] at hy
    cases hy
  refine (List.perm_ext_iff_of_nodup ?_ n2).2 fun s => ?_
  · rw [List.nodup_append]
    exact ⟨h.symm.nodup n1, by simp, fun a ha b hb e => hnot (by rw [List.mem_singleton] at hb; subst hb; subst e; exact ha)⟩
  · rw [List.mem_append, List.mem_singleton, h.mem_iff, mem_rise_iff, mem_rise_iff]
    constructor
    · rintro (⟨y, hy, hg⟩ | rfl)
      · refine ⟨y, hy, ?_⟩
        unfold gl at hg ⊢
        by_cases hly : left (y : Int) = true
        · rw [if_pos hly] at hg; cases hg
        · rw [if_neg hly] at hg
          rw [if_neg (by simp [hly]), hg]
      · obtain ⟨y, rfl⟩ := Int.eq_ofNat_of_zero_le hx.1
        refine ⟨y, by omega, ?_⟩
        unfold gl
        rw [if_neg (by simp), hk]; rfl
    · rintro ⟨y, hy, hg⟩
      by_cases e : (y : Int) = x
      · subst e
        unfold gl at hg
        rw [if_neg (by simp), hk] at hg
        exact .inr (Option.some.inj hg).symm
      · refine .inl ⟨y, hy, ?_⟩
        unfold gl at hg ⊢
        by_cases hly : left (y : Int) = true
        · rw [if_pos (by simp [hly, e])] at hg; cases hg
        · rw [if_neg (by simp [hly])] at hg
          rw [if_neg hly, hg]
theorem gl_first (L : List Ev) (f : Int → Option Nat) : rise (gl L f (fun x => (f x).isSome)) 64 = [] := by
  have : ∀ x, gl L f (fun x => (f x).isSome) x = none := fun x => by
    unfold gl
    cases h : f x <;> simp [h]
  apply List.eq_nil_of_length_eq_zero
  rcases hr : rise (gl L f (fun x => (f x).isSome)) 64 with _ | ⟨s, l⟩
  · rfl
  · obtain ⟨x, _, hx⟩ := mem_rise_iff.1 (show s ∈ rise (gl L f (fun x => (f x).isSome)) 64 by rw [hr]; simp)
    rw [this] at hx; cases hx
theorem gl_last {L : List Ev} {f : Int → Option Nat} {left : Int → Bool} (h : ∀ x, left x = false) : rise (gl L f left) 64 = stepsF L f :=
  Tx.rise_congr fun x _ => by unfold gl; rw [h]; rfl
theorem steps_x {L : List Ev} {f : Int → Option Nat} (hf : FitL L f) (x : Int) (s : Sp) (h : (f x).map (stOf L x) = some s) : s.x = x := by
  rw [Option.map_eq_some_iff] at h
  obtain ⟨k, hk, rfl⟩ := h
  exact stOf_x (hf x k hk).2.2 x
theorem sorted_steps {L : List Ev} {f : Int → Option Nat} {M S : List Sp} (hf : FitL L f) (hS : S.Perm (stepsF L f)) (hM : M.Perm S) (ho : M.Pairwise fun a b => a.x ≤ b.x) : M = stepsF L f := by
  have hp := hM.trans hS
  have hr := rise_lt (steps_x hf) 64
  refine perm_sorted hp ho (hr.imp fun h => by omega) fun a ha b hb hab hba => ?_
  obtain ⟨x, _, hx⟩ := mem_rise_iff.1 (hp.mem_iff.1 ha)
  obtain ⟨y, _, hy⟩ := mem_rise_iff.1 (hp.mem_iff.1 hb)
  have e1 := steps_x hf _ _ hx
  have e2 := steps_x hf _ _ hy
  have e : (x : Int) = (y : Int) := by omega
  rw [e] at hx
  exact Option.some.inj (hx.symm.trans hy)
theorem steps_ok {L : List Ev} {f : Int → Option Nat} (hf : FitL L f) (hok : ∀ e ∈ L, e.ok) {x : Int} {k : Nat} (h : f x = some k) : (stOf L x k).ok := by
  have hx := hf x k h
  have ho := hok _ (List.getElem_mem hx.2.2)
  unfold stOf
  rw [List.getElem?_eq_getElem hx.2.2]
  exact ⟨⟨by show (-9223372036854775808 : Int) ≤ x; omega, by show x ≤ 9223372036854775807; omega⟩, ho.2.2.2.1, ho.2.2.2.2⟩
end Go.Proofs.Ytaonepbongbhoaa.Hi
namespace Go.Proofs.Ytaonepbongbhoaa.Hi
open Go.RowKit
open Tx (i64p right Sp)
open Az
theorem NR.ne {W : World} {b r n cnt g : Nat} {f : Int → Option Nat} {left : Int → Bool} {c : Array Value} {t : TypeId} {fr : Nat × Nat} (h : NR W b r n f left cnt) (hg : W.heap[g]? = some (.cells c t fr)) : b ≠ g ∧ r ≠ g := by
  obtain ⟨D, sz, l, ⟨es, clock, since, seen, c0, h1, _, _, _, h2, _⟩, _⟩ := h
  exact ⟨fun e => (by subst e; rw [h1] at hg; cases hg), fun e => (by subst e; rw [h2] at hg; cases hg)⟩
theorem step_append_vars {t e : TypeId} (T : Tx.VT t e) {ops : Array Oper} {o : Oper} {a : Act} {w : World} {K : Act → World → Prop} {Q : Exit → Act → World → Prop} {E : Prop}
    (hg : o.guard = none) (s x : Operand) (hop : o.op = Op.call { callee := Callee.builtin Builtin.append, args := #[s, x], argTypes := #[t, t] }) {base : Nat} {v : Value} {L : List Sp} (hs : a.eval s = v) (hown : Tx.OwnVars w base e v L)
    (A : Option Addr) (c : Nat) (M : List Sp) {m : Nat} (hm : M.length = m) (hx : a.eval x = .slice A m c) (hM : Tx.VarsAt w A M) (hlen : L.length + M.length ≤ 1000) (hbase : base ≤ w.heap.size)
    (hK : ∀ v' w', Tx.OwnVars w' base e v' (L ++ M) → w.grownBy w' v.ownBlock → K (a.put o.dst v') w') :
    if Region.wanted o (yielded ops a.tmps) = true then Oper.wp Try.prog o a w K Q else E := by
  have hw : Region.wanted o (yielded ops a.tmps) = true := by simp [Region.wanted, hg]
  rw [if_pos hw]
  subst hm
  obtain ⟨v', w', hr, h2, h3⟩ := Tx.run_append_vars T o.type hown c hM hlen hbase
  unfold Oper.wp
  simp [execOp, hop, resolve, invoke, builtin, hs, hx, hr, Result.andThen]
  exact hK v' w' h2 h3
theorem vars_blk {w : World} {b : Nat} {s : Sp} {t : TypeId} (h : Rp.Blk w b (Tx.stepA s) t) (hs : s.ok) : Tx.VarsAt w (some ⟨b, 0, none⟩) [s] :=
  ⟨fun _ => ⟨_, rfl, fun j u hu => by
    have hadd : (⟨b, 0, none⟩ : Addr).add j = ⟨b, j, none⟩ := by unfold Addr.add; split <;> simp_all
    rw [hadd, cell_of_row _ b j _ t (0, 0) h]
    simpa [Tx.flat, Tx.cellsOf, Tx.stepA] using hu⟩, fun x hx => by simp at hx; subst hx; exact hs⟩
theorem vars_grown {W w' : World} {base : Nat} {v : Value} {S : List Sp} {e : TypeId} (h : Tx.OwnVars W base e v S) (hg : W.grownBy w' v.ownBlock) (hb : base ≤ W.heap.size) : Below base W w' :=
  (Below.refl _ _).grown hg hb (fun k hk => (World.ownsRow.lt h.row k hk).1)
theorem vars_cells {W : World} {base : Nat} {t : TypeId} {v : Value} {S : List Sp} (h : Tx.OwnVars W base t v S) {g : Nat} (hg : v.ownBlock = some g) : ∃ c, W.heap[g]? = some (.cells c t (0, 0)) := by
  rcases h.row.2 with ⟨rfl, _⟩ | ⟨g', cap, cur, rfl, _, hh, _⟩
  · cases hg
  · obtain rfl : g' = g := Option.some.inj hg
    exact ⟨cur, hh⟩
/-- the row that grows, the map that is gone through, the events. -/
structure SSt (w : World) (A : Option Addr) (L : List Ev) (b r n : Nat) (f : Int → Option Nat) (left : Int → Bool) (cnt : Nat) (v : Value) (S : List Sp) (W : World) : Prop where
  own : Tx.OwnVars W w.heap.size 48 v S
  nr : NR W b r n f left cnt
  h : Rn.At encE W A L
  bel : Below w.heap.size w W
section
variable {w : World} {A : Option Addr} {L : List Ev} {b r n : Nat} {f : Int → Option Nat} {left : Int → Bool} {cnt : Nat} {v : Value} {S : List Sp}
theorem SSt.below {W W' : World} (h : SSt w A L b r n f left cnt v S W) (hb : Below W.heap.size W W') : SSt w A L b r n f left cnt v S W' :=
  ⟨h.own.below hb (Nat.le_refl _), h.nr.below hb, h.h.below hb (Nat.le_refl _), h.bel.trans (hb.mono h.bel.size)⟩
theorem SSt.drew {W : World} (h : SSt w A L b r n f left cnt v S W) : SSt w A L b r n f left cnt v S W.drew := h.below (Below.refl _ _).drew
/-- behind the append. -/
theorem SSt.grown {W w' : World} {v' : Value} {S' : List Sp} (h : SSt w A L b r n f left cnt v S W) (h0 : Rn.At encE w A L) (ho : Tx.OwnVars w' w.heap.size 48 v' S') (hg : W.grownBy w' v.ownBlock) : SSt w A L b r n f left cnt v' S' w' := by
  have hb := vars_grown h.own hg h.bel.size
  have hne : ∀ g, v.ownBlock = some g → b ≠ g ∧ r ≠ g := fun g e => by
    obtain ⟨c, hc⟩ := vars_cells h.own e
    exact h.nr.ne hc
  exact ⟨ho, h.nr.kept hg (fun e => (hne b e.symm).1 rfl) (fun e => (hne r e.symm).2 rfl), h0.below (h.bel.trans hb) (Nat.le_refl _), h.bel.trans hb⟩
/-- the step of the range. -/
theorem SSt.next {W w' : World} {left' : Int → Bool} {cnt' : Nat} (h : SSt w A L b r n f left cnt v S W) (h0 : Rn.At encE w A L) (hr : NR w' b r n f left' cnt') (hg : W.grownBy w' (some r)) (hlt : w.heap.size ≤ r) : SSt w A L b r n f left' cnt' v S w' := by
  have hb : Below w.heap.size W w' := (Below.refl _ _).grown hg h.bel.size (fun k hk => by have := Option.some.inj hk; omega)
  refine ⟨⟨World.ownsRow.kept (row := some r) h.own.row hg ?_, h.own.ok⟩, hr, h0.below (h.bel.trans hb) (Nat.le_refl _), h.bel.trans hb⟩
  cases hv : v.ownBlock with
  | none => exact .inl rfl
  | some g =>
    obtain ⟨c, hc⟩ := vars_cells h.own hv
    exact .inr (fun e => (h.nr.ne hc).2 (Option.some.inj e).symm)
end
def SRel (w : World) (A : Option Addr) (L : List Ev) (b r n : Nat) (f : Int → Option Nat) (v : Value) (wr : World) : Prop := ∃ left cnt S, SSt w A L b r n f left cnt v S wr ∧ S.Perm (Tx.rise (gl L f left) 64) ∧ (∀ x, left x = true → (f x).isSome = true) ∧ ∃ g n' cap, v = .slice (some ⟨g, 0, none⟩) n' cap
theorem vars_lit {W : World} {base : Nat} {t : TypeId} {v : Value} {S : List Sp} (h : Tx.OwnVars W base t v S) (hp : 0 < S.length) : ∃ g n' cap, v = .slice (some ⟨g, 0, none⟩) n' cap := by
  rcases h.row.2 with ⟨rfl, h0⟩ | ⟨g', cap, cur, rfl, _⟩
  · omega
  · exact ⟨_, _, _, rfl⟩
theorem own_lit {W : World} {base : Nat} {v : Value} {S : List Sp} {L : List Ev} {f : Int → Option Nat} {left : Int → Bool} (h : S.Perm (Tx.rise (gl L f left) 64)) (_ : Tx.OwnVars W base 48 v S) : S.length ≤ 64 := by
  rw [h.length_eq]; exact Tx.rise_len _ _
set_option maxRecDepth 100000 in
set_option maxHeartbeats 4000000 in
theorem steps_any (A : Option Addr) (c : Nat) (L : List Ev) (b n sz : Nat) (f : Int → Option Nat) (w : World) (h : Rn.At encE w A L) (hok : ∀ e ∈ L, e.ok) (_ : L.length ≤ 2000) (hm : NM w b n sz f) (hf : FitL L f) (hsz : sz ≤ 4096) :
    Calls Try.prog 35 #[.slice A L.length c, .map (some b)] w fun r w' => ∃ v, r = .returned v ∧ Tx.OwnVars w' w.heap.size 48 v (stepsF L f) ∧ Below w.heap.size w w' := by
  have H := Lib.hid h
  have HM := Lib.hid hm
  have HF := Lib.hid hf
  have HOK := Lib.hid hok
  have HSZ := Lib.hid hsz
  obtain ⟨i0, hi, hz0, hz1, hz2⟩ := info_parts Tx.step_info
  clear h hm hf hok
  go_enter Try.func35, Try.ntmps35
  go_wp2_with (first | (at_len; refine wpList_lenM rfl (.tmp 8) rfl b n sz f rfl HM.out ?_) | refine wpList_make_own _ rfl _ _ 42 rfl w.heap.size 48 i0 _ 4 Try.underlying42 hi hz0 hz1 .i64 .i64 (sz : Nat) sz rfl rfl rfl (by rw [hz2]; have := HSZ.out; omega) (by have := HSZ.out; unfold maxLen; omega) (Nat.le_refl _) ?_)
  intro w1 ho1 hg1
  have HO1 := Lib.hid (show Tx.OwnVars w1 w.heap.size 48 (.slice (some ⟨w.heap.size, 0, none⟩) 0 sz) [] from ⟨ho1, by simp⟩)
  have HB1 := Lib.hid (show Below w.heap.size w w1 from (Below.refl _ _).grown hg1 (Nat.le_refl _) (fun k hk => by cases hk))
  have HS1 := Lib.hid (show w.heap.size < w1.heap.size from (World.ownsRow.lt ho1 _ rfl).2)
  clear ho1 hg1
  go_wp2_with (at_range; refine wpList_rangeM rfl _ rfl b n sz f rfl (HM.out.below HB1.out) ?_; intro w2 cnt0 hr2 hb2 hs2)
  have HS2 := Lib.hid (show SSt w A L b w1.heap.size n f (fun x => (f x).isSome) cnt0 (.slice (some ⟨w.heap.size, 0, none⟩) 0 sz) [] w2 from ⟨HO1.out.below hb2 (Nat.le_refl _), hr2, H.out.below (HB1.out.trans (hb2.mono HB1.out.size)) (Nat.le_refl _), HB1.out.trans (hb2.mono HB1.out.size)⟩)
  clear hr2 hb2 hs2 HO1
  have HR := Lib.hid HS1.out
  clear HS1 HB1

  go_frame
  go_loopw [5] (SRel w A L b w1.heap.size n f) (fun _ wr => wr.rangeLeft b w1.heap.size)
  case atStart => exact ⟨_, _, _, HS2.out, by rw [gl_first], fun x hx => hx, _, _, _, rfl⟩
  case round =>
    obtain ⟨left, cnt, S, hst, hpm, hlf, hlit⟩ := hrel
    have HLIT := Lib.hid hlit
    clear hlit
    have HSW := Lib.hid hst
    have HP := Lib.hid hpm
    have HLF0 := Lib.hid hlf
    clear hst hpm hlf
    go_wp2_with (at_next; refine wpList_nextM rfl _ rfl b w1.heap.size n f left cnt rfl HSW.out.nr HLF0.out ?_ ?_)
    · intro hl0
      have HL0 := Lib.hid hl0
      clear hl0
      have hp := HP.out
      rw [gl_last HL0.out] at hp
      have HPF := Lib.hid hp
      have HL64 := Lib.hid (own_lit HP.out HSW.out.own)
      clear hp
      obtain ⟨g, n', cap, rfl⟩ := HLIT.out
      go_wp2_with fail
      refine (sort_steps HSW.out.own HL64.out).mono ?_
      rintro r w4 ⟨rfl, M, p1, p2, ho, hg⟩
      have HB4 := Lib.hid (HSW.out.bel.trans (vars_grown HSW.out.own hg HSW.out.bel.size))
      rw [sorted_steps HF.out HPF.out p1 p2] at ho
      have HO := Lib.hid ho
      clear ho hg p1 p2
      go_wp2
      go_ret
      exact ⟨_, rfl, HO.out, HB4.out⟩
    · intro x k w3 cnt1 hlx hfx hr3 hlt3 hg3 hs3 hen
      have hft := HF.out x k hfx
      have he : L[k]? = some L[k] := List.getElem?_eq_getElem hft.2.2
      generalize hE : L[k] = e at he
      obtain ⟨ad, rfl, _⟩ := atE H.out he
      have HE := Lib.hid he
      have HKB := Lib.hid (show k < L.length from hft.2.2)
      have HKN := Lib.hid (show (k : Int) < (L.length : Int) from by omega)
      have HST := Lib.hid (show stOf L x k = ⟨x, e.k, e.n, decide (e.kd = 2)⟩ from by unfold stOf; rw [he])
      have HSO := Lib.hid (show (⟨x, e.k, e.n, decide (e.kd = 2)⟩ : Sp).ok from by rw [← HST.out]; exact steps_ok HF.out HOK.out hfx)
      have HEQ := Lib.hid (show (e.kd == 2) = decide (e.kd = 2) from by rw [Bool.eq_iff_iff]; simp)
      have HSL := Lib.hid (own_lit HP.out HSW.out.own)
      have HPM := Lib.hid (gl_step HF.out HP.out hlx hfx)
      have HLF := Lib.hid (show ∀ z, (left z && !decide (z = x)) = true → (f z).isSome = true from fun z hz => HLF0.out z (by simp at hz; exact hz.1))
      have HLTT := Lib.hid hlt3
      have HS3 := Lib.hid (HSW.out.next H.out hr3 hg3 (by have := HR.out; omega))
      clear hft he hE hlx hfx hr3 hlt3 hg3 hs3
      go_wp2
      refine wp_region_noPanic ?_
      refine region_z 17 (fun W => SSt w (some ad) L b w1.heap.size n f (fun z => left z && !decide (z = x)) cnt1 u5 S W) 15 1000 rfl (by kernel_rfl) (by exact HS3.out.drew) (fun hHeld => ?_)
      refine take_d [15, 16] 0 18 (u5) rfl rfl (by kernel_rfl) (by kernel_rfl) (by kernel_rfl) (by kernel_rfl) (fun _ _ _ h => h) (Or.inl ⟨by rfl, by intro W hW; clear hW; go_simp⟩) hHeld ?_
      simp only [put_laws]
      refine take_d [13, 14, 15, 16] 1 19 (.int .i64 x) rfl rfl (by kernel_rfl) (by kernel_rfl) (by kernel_rfl) (by kernel_rfl) (fun _ _ _ h => h) (Or.inl ⟨by rfl, by intro W hW; clear hW; go_simp⟩) hHeld ?_
      simp only [put_laws]
      refine take_d [4, 5, 6, 13, 14, 15, 16] 2 20 (.slice (some ad) L.length c) rfl rfl (by kernel_rfl) (by kernel_rfl) (by kernel_rfl) (by kernel_rfl) (fun _ _ _ h => h) (Or.inl ⟨by rfl, by intro W hW; clear hW; go_simp⟩) hHeld ?_
      simp only [put_laws]
      refine take_d [4, 5, 6, 13, 14, 15, 16] 3 21 (.int .i64 (k : Nat)) rfl rfl (by kernel_rfl) (by kernel_rfl) (by kernel_rfl) (by kernel_rfl) (fun _ _ _ h => h) (Or.inl ⟨by rfl, by intro W hW; clear hW; go_simp⟩) hHeld ?_
      simp only [put_laws]
      refine take_d [5, 6, 13, 14, 15, 16] 4 22 (.pointer (some (ad.add (k * 5)))) rfl rfl (by kernel_rfl) (by kernel_rfl) (by kernel_rfl) (by kernel_rfl) (fun _ _ _ h => h) (Or.inl ⟨by rfl, by intro W hW; have hk := HKB.out; have hk2 := HKN.out; clear hW; go_simp⟩) hHeld ?_
      simp only [put_laws]
      refine take_d [6, 13, 14, 15, 16] 5 23 (.pointer (some ⟨(ad.add (k * 5)).block, (ad.add (k * 5)).off + 3, none⟩)) rfl rfl (by kernel_rfl) (by kernel_rfl) (by kernel_rfl) (by kernel_rfl) (fun _ _ _ h => h) (Or.inl ⟨by rfl, by intro W hW; clear hW; go_simp⟩) hHeld ?_
      simp only [put_laws]
      refine take_d [13, 14, 15, 16] 6 24 (.agg (#[.int .i64 e.k, .int .i64 e.n])) rfl rfl (by kernel_rfl) (by kernel_rfl) (by kernel_rfl) (by kernel_rfl) (fun _ _ _ h => h) (Or.inl ⟨by rfl, by intro W hW; have hh := atE hW.h HE.out; obtain ⟨ad2, e2, hh⟩ := hh; have e2 := Option.some.inj e2; subst e2; obtain ⟨c0, c1, c2, c3, c4⟩ := hh; clear hW; go_simp⟩) hHeld ?_
      simp only [put_laws]
      refine take_d [9, 10, 11, 12, 13, 14, 15, 16] 7 25 (.slice (some ad) L.length c) rfl rfl (by kernel_rfl) (by kernel_rfl) (by kernel_rfl) (by kernel_rfl) (fun _ _ _ h => h) (Or.inl ⟨by rfl, by intro W hW; clear hW; go_simp⟩) hHeld ?_
      simp only [put_laws]
      refine take_d [9, 10, 11, 12, 13, 14, 15, 16] 8 26 (.int .i64 (k : Nat)) rfl rfl (by kernel_rfl) (by kernel_rfl) (by kernel_rfl) (by kernel_rfl) (fun _ _ _ h => h) (Or.inl ⟨by rfl, by intro W hW; clear hW; go_simp⟩) hHeld ?_
      simp only [put_laws]
      refine take_d [10, 11, 12, 13, 14, 15, 16] 9 27 (.pointer (some (ad.add (k * 5)))) rfl rfl (by kernel_rfl) (by kernel_rfl) (by kernel_rfl) (by kernel_rfl) (fun _ _ _ h => h) (Or.inl ⟨by rfl, by intro W hW; have hk := HKB.out; have hk2 := HKN.out; clear hW; go_simp⟩) hHeld ?_
      simp only [put_laws]
      refine take_d [11, 12, 13, 14, 15, 16] 10 28 (.pointer (some (ad.add (k * 5)))) rfl rfl (by kernel_rfl) (by kernel_rfl) (by kernel_rfl) (by kernel_rfl) (fun _ _ _ h => h) (Or.inl ⟨by rfl, by intro W hW; clear hW; go_simp⟩) hHeld ?_
      simp only [put_laws]
      refine take_d [12, 13, 14, 15, 16] 11 29 (.int .i64 e.kd) rfl rfl (by kernel_rfl) (by kernel_rfl) (by kernel_rfl) (by kernel_rfl) (fun _ _ _ h => h) (Or.inl ⟨by rfl, by intro W hW; have hh := atE hW.h HE.out; obtain ⟨ad2, e2, hh⟩ := hh; have e2 := Option.some.inj e2; subst e2; obtain ⟨c0, c1, c2, c3, c4⟩ := hh; clear hW; go_simp⟩) hHeld ?_
      simp only [put_laws]
      refine take_d [13, 14, 15, 16] 12 30 (.bool (decide (e.kd = 2))) rfl rfl (by kernel_rfl) (by kernel_rfl) (by kernel_rfl) (by kernel_rfl) (fun _ _ _ h => h) (Or.inl ⟨by rfl, by intro W hW; have hq := HEQ.out; clear hW; go_simp⟩) hHeld ?_
      simp only [put_laws]
      refine take_d [14, 15, 16] 13 31 (.agg (#[.int .i64 x, .int .i64 e.k, .int .i64 e.n, .bool (decide (e.kd = 2))])) rfl rfl (by kernel_rfl) (by kernel_rfl) (by kernel_rfl) (by kernel_rfl) (fun _ _ _ h => h) (Or.inl ⟨by rfl, by intro W hW; clear hW; go_simp⟩) hHeld ?_
      simp only [put_laws]
      refine anyZ_ready (rs := [14]) (by kernel_rfl) (by simp) ?_
      refine AllZ.cons rfl (fun K hK => ?_) AllZ.nil
      go_simp
      have hN : Rp.Blk ((w3.alloc (.cells #[.int .i64 x, .int .i64 e.k, .int .i64 e.n, .bool (decide (e.kd = 2))] 48)).drew) (w3.heap.size) #[.int .i64 x, .int .i64 e.k, .int .i64 e.n, .bool (decide (e.kd = 2))] 48 := Rp.Blk.new (w3.drew) #[.int .i64 x, .int .i64 e.k, .int .i64 e.n, .bool (decide (e.kd = 2))] 48
      have hPrev := hHeld
      have hHeld := hHeld.below (show Below _ _ ((w3.alloc (.cells #[.int .i64 x, .int .i64 e.k, .int .i64 e.n, .bool (decide (e.kd = 2))] 48)).drew) from Rn.below_new (w3.drew) (.cells #[.int .i64 x, .int .i64 e.k, .int .i64 e.n, .bool (decide (e.kd = 2))] 48))
      generalize (w3.alloc (.cells #[.int .i64 x, .int .i64 e.k, .int .i64 e.n, .bool (decide (e.kd = 2))] 48)).drew = w4 at *
      clear hPrev
      refine hK.out _ _ hHeld (fun hHeld => ?_)
      clear hK K
      refine anyZ_ready (rs := [15]) (by kernel_rfl) (by simp) ?_
      refine AllZ.last rfl rfl (fun K hK => ?_)
      refine step_append_vars Tx.lvt rfl (.tmp 18) (.tmp 32) rfl (v := u5) (base := w.heap.size) rfl hHeld.own _ _ [⟨x, e.k, e.n, decide (e.kd = 2)⟩] rfl rfl (vars_blk (s := ⟨x, e.k, e.n, decide (e.kd = 2)⟩) hN HSO.out) (by have := HSL.out; simp; omega) hHeld.bel.size ?_
      intro v' w5 ho5 hg5
      have HS5 := Lib.hid (hHeld.grown H.out ho5 hg5)
      refine hK.out _ _ ?_
      clear hK K hHeld ho5 hg5 hN
      refine anyZ_ready (rs := [16]) (by kernel_rfl) (by simp) ?_
      refine AllZ.last rfl rfl (fun K hK => ?_)
      go_simp
      refine hK.out _ _ ?_
      clear hK K
      refine anyZ_done (by kernel_rfl) ?_ _
      refine NoPanic.normal ?_
      go_wp2
      go_roundw
      case rel => exact ⟨_, _, _, HS5.out, by rw [← HST.out]; exact HPM.out, HLF.out, vars_lit HS5.out.own (by simp)⟩
      case measure =>
        rw [HS5.out.nr.left_eq, HSW.out.nr.left_eq]; exact HLTT.out
end Go.Proofs.Ytaonepbongbhoaa.Hi
namespace Go.Proofs.Ytaonepbongbhoaa.Hi
open Go.RowKit
open Tx (i64p right Sp SlAt)
open Az
open Rp (Ent Xc encX OwnI ItAt RdX Off)
theorem crL_okL {L : List Ev} (hl : L.length ≤ 2000) : ∀ c ∈ crL L, Okc L.length c := by
  unfold crL
  cases h : crs L with
  | none => simp
  | some l => exact (run_ok (crs_some h).2 hl).1
theorem Okc.rdL {L : List Ev} {c : Cr} (h : Okc L.length c) : FitL L c.rd := fun x k e => by have := h.rd x k e; exact ⟨this.1, this.2.1, this.2.2.2.1⟩
theorem Okc.wrL {L : List Ev} {c : Cr} (h : Okc L.length c) : FitL L c.wr := fun x k e => by have := h.wr x k e; exact ⟨this.1, this.2.1, this.2.2.2.1⟩
theorem stepsF_len (L : List Ev) (f : Int → Option Nat) : (stepsF L f).length ≤ 64 := Tx.rise_len _ _
/-- what a transaction did. -/
def entC (L : List Ev) (i : Nat) (c : Cr) : Ent := ⟨(i : Int) + 1, c.com, over c, stepsF L c.rd, if c.com then stepsF L c.wr else []⟩
def zeroE : Ent := ⟨0, false, false, [], []⟩
def zeroX : Xc := ⟨zeroE, none, 0, none, 0⟩
def entF (L : List Ev) (l : List Cr) (i : Nat) : Ent := match l[i]? with
  | some c => entC L i c
  | none => zeroE
def entL (L : List Ev) : List Ent := (List.range (crL L).length).map (entF L (crL L))
theorem entL_few (L : List Ev) : Rp.few (entL L) := fun e he => by
  obtain ⟨i, _, rfl⟩ := List.mem_map.1 he
  unfold entF
  split
  · refine ⟨Nat.le_trans (stepsF_len _ _) (by decide), ?_⟩
    unfold entC
    dsimp only
    split
    · exact Nat.le_trans (stepsF_len _ _) (by decide)
    · exact Nat.zero_le _
  · exact ⟨Nat.zero_le _, Nat.zero_le _⟩
theorem steps_s (A : Option Addr) (c : Nat) (L : List Ev) (b n sz : Nat) (f : Int → Option Nat) (w : World) (h : Rn.At encE w A L) (hok : ∀ e ∈ L, e.ok) (hl : L.length ≤ 2000) (hm : NM w b n sz f) (hf : FitL L f) (hsz : sz ≤ 4096) :
    Calls Try.prog 35 #[.slice A L.length c, .map (some b)] w fun r w' => ∃ B d, r = .returned (.slice B (stepsF L f).length d) ∧ SlAt w' B d (stepsF L f) ∧ Tx.Fr w.heap.size B ∧ Below w.heap.size w w' := by
  refine (steps_any A c L b n sz f w h hok hl hm hf hsz).mono ?_
  rintro r w' ⟨v, rfl, ho, hb⟩
  rcases ho.row.2 with ⟨rfl, h0⟩ | ⟨g, cap, cur, rfl, hbase, hg, hn, hmm, hs, ht⟩
  · exact ⟨none, 0, by rw [h0], ⟨⟨fun hl => by omega, ho.ok⟩, by omega, by unfold maxLen; omega⟩, (fun ad e => by cases e), hb⟩
  · exact ⟨_, cap, rfl, ⟨⟨fun _ => ⟨_, rfl, ho.row.cells rfl⟩, ho.ok⟩, hn, hmm⟩, (fun ad e => by cases e; exact hbase), hb⟩
/-- a map's entries are as many as its bound. -/
theorem NM.sz {W : World} {b n sz : Nat} {f : Int → Option Nat} (h : NM W b n sz f) : sz ≤ n := by
  obtain ⟨D, ⟨es, clock, hh, F, hs, hD⟩, hr⟩ := h
  rw [← hr.size, hD]
  simp only [Maps.size, length_sorted, List.length_map, Array.length_toList]
  exact hs
/-- the course's box, the row of entries, the courses, the events. -/
structure NSe (w wr : World) (A B : Option Addr) (L : List Ev) (X : List Co) (g : Nat) (x : Co) (Y : List Xc) (E : List Ent) (W : World) : Prop where
  c0 : W.cell? ⟨wr.heap.size, 0, none⟩ = some (.complex .f64 (cr x.c) (ci x.c))
  c1 : W.cell? ⟨wr.heap.size, 1, none⟩ = some (.bool x.c.com)
  c2 : W.cell? ⟨wr.heap.size, 2, none⟩ = some (.map (some x.rb))
  c3 : W.cell? ⟨wr.heap.size, 3, none⟩ = some (.map (some x.wb))
  rc : RdC W B X
  ow : OwnI 44 W g (.slice (some ⟨g, 0, none⟩) X.length X.length) Y E
  h : Rn.At encE W A L
  bel : Below w.heap.size w W
section
variable {w wr : World} {A B : Option Addr} {L : List Ev} {X : List Co} {g : Nat} {x : Co} {Y : List Xc} {E : List Ent}
theorem NSe.below {W W' : World} (h : NSe w wr A B L X g x Y E W) (hb : Below W.heap.size W W') : NSe w wr A B L X g x Y E W' :=
  ⟨(hb.cell (Rn.cell_lt h.c0)).trans h.c0, (hb.cell (Rn.cell_lt h.c1)).trans h.c1, (hb.cell (Rn.cell_lt h.c2)).trans h.c2, (hb.cell (Rn.cell_lt h.c3)).trans h.c3, h.rc.below hb, h.ow.below hb, h.h.below hb (Nat.le_refl _), h.bel.trans (hb.mono h.bel.size)⟩
theorem NSe.drew {W : World} (h : NSe w wr A B L X g x Y E W) : NSe w wr A B L X g x Y E W.drew := h.below (Below.refl _ _).drew
end
theorem ent_size : (Try.prog.info? 44).map (·.size) = some 5 := by kernel_rfl
/-- an entry is written over. -/
theorem own_ent {W : World} {g n : Nat} {Y : List Xc} {E : List Ent} {j : Nat} {y : Xc} {e0 : Ent} (h : OwnI 44 W g (.slice (some ⟨g, 0, none⟩) n n) Y E) (hj : j < E.length) (he0 : y.e = e0) (hy : RdX W y) (hof : Off (some g) y) :
    OwnI 44 (W.setCells g (j * 5) [.int .i64 y.e.id, .bool y.e.com, .bool y.e.ovr, .slice y.A y.e.rd.length y.c, .slice y.B y.e.wt.length y.d]) g (.slice (some ⟨g, 0, none⟩) n n) (Y.set j y) (E.set j e0) ∧
      Below g W (W.setCells g (j * 5) [.int .i64 y.e.id, .bool y.e.com, .bool y.e.ovr, .slice y.A y.e.rd.length y.c, .slice y.B y.e.wt.length y.d]) ∧ W.there g (j * 5) 5 := by
  subst he0
  have hjy : j < Y.length := by rw [h.len]; exact hj
  have hz : Y[j]? = some Y[j] := List.getElem?_eq_getElem hjy
  generalize Y[j] = z at hz
  have p0 := h.row.put hz 0 (by decide) (.int .i64 y.e.id) (v' := ⟨⟨y.e.id, z.e.com, z.e.ovr, z.e.rd, z.e.wt⟩, z.A, z.c, z.B, z.d⟩) rfl
  have q : ∀ u, (Y.set j u)[j]? = some u := fun u => by rw [List.getElem?_set_self hjy]
  have p1 := p0.put (q _) 1 (by decide) (.bool y.e.com) (v' := ⟨⟨y.e.id, y.e.com, z.e.ovr, z.e.rd, z.e.wt⟩, z.A, z.c, z.B, z.d⟩) rfl
  rw [List.set_set] at p1
  have p2 := p1.put (q _) 2 (by decide) (.bool y.e.ovr) (v' := ⟨⟨y.e.id, y.e.com, y.e.ovr, z.e.rd, z.e.wt⟩, z.A, z.c, z.B, z.d⟩) rfl
  rw [List.set_set] at p2
  have p3 := p2.put (q _) 3 (by decide) (.slice y.A y.e.rd.length y.c) (v' := ⟨⟨y.e.id, y.e.com, y.e.ovr, y.e.rd, z.e.wt⟩, y.A, y.c, z.B, z.d⟩) rfl
  rw [List.set_set] at p3
  have p4 := p3.put (q _) 4 (by decide) (.slice y.B y.e.wt.length y.d) (v' := y) rfl
  rw [List.set_set] at p4
  have hb : Below g W (W.setCells g (j * 5) [.int .i64 y.e.id, .bool y.e.com, .bool y.e.ovr, .slice y.A y.e.rd.length y.c, .slice y.B y.e.wt.length y.d]) :=
    (((((Below.refl g W).setCell (Nat.le_refl _) _).setCell (Nat.le_refl _) _).setCell (Nat.le_refl _) _).setCell (Nat.le_refl _) _).setCell (Nat.le_refl _) _
  have hgr : W.grownBy (W.setCells g (j * 5) [.int .i64 y.e.id, .bool y.e.com, .bool y.e.ovr, .slice y.A y.e.rd.length y.c, .slice y.B y.e.wt.length y.d]) (some g) := by
    have hh : ∀ (V : World) (i : Nat) (u : Value), V.grownBy (V.setCell ⟨g, i, none⟩ u) (some g) := fun V i u => by
      refine ⟨rfl, rfl, rfl, by simp [World.setCell], fun k hk hne => Below.heap_setCell _ _ _ _ (fun e => hne (by rw [e]))⟩
    have t : ∀ {V1 V2 V3 : World}, V1.grownBy V2 (some g) → V2.grownBy V3 (some g) → V1.grownBy V3 (some g) := fun a b => a.andThen b (fun _ hj => .inr hj)
    exact t (t (t (t (hh _ _ _) (hh _ _ _)) (hh _ _ _)) (hh _ _ _)) (hh _ _ _)
  have hoff : ∀ u ∈ Y.set j y, RdX W u ∧ Off (some g) u := fun u hu => by
    rcases List.mem_or_eq_of_mem_set hu with hu | rfl
    · exact ⟨h.rd u hu, h.off u hu⟩
    · exact ⟨hy, hof⟩
  refine ⟨⟨p4, by rw [List.map_set, h.es], fun u hu => (hoff u hu).1.grown hgr (hoff u hu).2, fun u hu => (hoff u hu).2⟩, hb, fun i hi => ?_⟩
  have hc := h.row.get hz i hi
  have hc' : W.cell? ⟨g, j * 5 + i, none⟩ = (encX.cells z)[i]? := hc
  refine ⟨?_, h.row.free (j * 5 + i)⟩
  rw [hc', List.getElem?_eq_getElem (by rw [encX.len]; exact hi)]; rfl
theorem cell_off {W : World} {p : Addr} {v : Value} {g o : Nat} {l : List Value} (_ : Below g W (W.setCells g o l)) (h : W.cell? p = some v) (hne : p.block ≠ g) : (W.setCells g o l).cell? p = some v := by
  rw [World.cell?_setCells_out g l o W p (fun e => absurd e hne)]; exact h
def EnRel (w : World) (A B : Option Addr) (L : List Ev) (X : List Co) (g : Nat) (i : Value) (wr : World) : Prop :=
  ∃ (k : Nat) (Y : List Xc), k ≤ X.length ∧ i = .int .i64 k ∧ RdC wr B X ∧ OwnI 44 wr g (.slice (some ⟨g, 0, none⟩) X.length X.length) Y (fill (entF L (cs X)) zeroE X.length k) ∧ Rn.At encE wr A L ∧ Below w.heap.size w wr
def ItS (E : List Ent) (w : World) (r : Ending) (w' : World) : Prop := ∃ B d Y, r = .returned (.slice B E.length d) ∧ E.length ≤ d ∧ d ≤ maxLen ∧ ItAt w' B Y E ∧ Below w.heap.size w w'
theorem sl_nil (w : World) : SlAt w none 0 [] := ⟨⟨fun h => by simp at h, by simp⟩, Nat.le_refl _, by decide⟩
theorem steps_m (A : Option Addr) (c : Nat) (L : List Ev) (b : Nat) (f : Int → Option Nat) (w : World) (h : Rn.At encE w A L) (hok : ∀ e ∈ L, e.ok) (hl : L.length ≤ 2000) (hm : ∃ sz, NM w b 2000 sz f) (hf : FitL L f) :
    Calls Try.prog 35 #[.slice A L.length c, .map (some b)] w fun r w' => ∃ B d, r = .returned (.slice B (stepsF L f).length d) ∧ SlAt w' B d (stepsF L f) ∧ Tx.Fr w.heap.size B ∧ Below w.heap.size w w' := by
  obtain ⟨sz, hm⟩ := hm
  exact steps_s A c L b 2000 sz f w h hok hl hm hf (by have := hm.sz; omega)
theorem RdC.keep {W W' : World} {A : Option Addr} {X : List Co} {g : Nat} (h : RdC W A X) (hb : Below g W W') (h1 : ∀ ad, A = some ad → ad.block < g) (h2 : ∀ x ∈ X, x.rb < g ∧ x.wb < g) : RdC W' A X :=
  ⟨⟨fun hl => by
    obtain ⟨ad, e, hc⟩ := h.row.cell hl
    exact ⟨ad, e, fun j u hu => (hb.cell (by rw [Rn.add_block]; exact h1 ad e)).trans (hc j u hu)⟩⟩, h.gc, fun x hx => by
    obtain ⟨⟨s1, m1⟩, s2, m2⟩ := h.mp x hx
    exact ⟨⟨s1, m1.keep hb (h2 x hx).1⟩, s2, m2.keep hb (h2 x hx).2⟩⟩
theorem RdC.lt {W : World} {A : Option Addr} {X : List Co} (h : RdC W A X) : ∀ x ∈ X, x.rb < W.heap.size ∧ x.wb < W.heap.size := fun x hx => by
  obtain ⟨⟨s1, m1⟩, s2, m2⟩ := h.mp x hx
  exact ⟨m1.lt, m2.lt⟩
theorem step_store_mid {w : World} {ops : Array Oper} {op : Oper} {a : Act} {K : Act → World → Prop} {Q : Exit → Act → World → Prop} {F : Prop} (hgd : op.guard = none) (ty : TypeId) (x y : Operand) (ho : op.op = .store ty x y) (hds : op.dst = none)
    (b o : Nat) (cells : Array Value) (hx : a.eval x = .pointer (some ⟨b, o, none⟩)) (hy : a.eval y = .agg cells) (ht : w.there b o cells.size) (hi : (Try.prog.info? ty).map (·.size) = some cells.size) (h1 : cells.all (·.oneCell') = true)
    (hK : K a (w.setCells b o cells.toList)) : if Region.wanted op (yielded ops a.tmps) = true then Oper.wp Try.prog op a w K Q else F := by
  have hw : Region.wanted op (yielded ops a.tmps) = true := by simp [Region.wanted, hgd]
  rw [if_pos hw]
  refine wp_store_mid ty x y ho b o cells hx hy ht hi h1 ?_
  rw [hds]; exact hK
theorem ent_one (y : Xc) : (#[.int .i64 y.e.id, .bool y.e.com, .bool y.e.ovr, .slice y.A y.e.rd.length y.c, .slice y.B y.e.wt.length y.d] : Array Value).all (·.oneCell') = true := by
  rw [Array.all_eq_true']
  intro u hu
  simp at hu
  rcases hu with rfl | rfl | rfl | rfl | rfl <;> rfl
/-- behind the store of an entry. -/
theorem NSe.put {w wr : World} {A B : Option Addr} {L : List Ev} {X : List Co} {g : Nat} {x : Co} {Y : List Xc} {E : List Ent} {W : World} {k : Nat} {y : Xc} {e0 : Ent} (h : NSe w wr A B L X g x Y E W) (h0 : Rn.At encE w A L) (hk : k < E.length) (he : y.e = e0) (hy : RdX W y) (hof : Off (some g) y)
    (hg : w.heap.size ≤ g) (hgw : g < wr.heap.size) (h1 : ∀ ad, B = some ad → ad.block < g) (h2 : ∀ x ∈ X, x.rb < g ∧ x.wb < g) :
    NSe w wr A B L X g x (Y.set k y) (E.set k e0) (W.setCells g (k * 5) [.int .i64 y.e.id, .bool y.e.com, .bool y.e.ovr, .slice y.A y.e.rd.length y.c, .slice y.B y.e.wt.length y.d]) ∧ W.there g (k * 5) 5 := by
  obtain ⟨o1, hb, ht⟩ := own_ent h.ow hk he hy hof
  have hbw := h.bel.trans (hb.mono hg)
  have hne : wr.heap.size ≠ g := by omega
  exact ⟨⟨cell_off hb h.c0 hne, cell_off hb h.c1 hne, cell_off hb h.c2 hne, cell_off hb h.c3 hne, h.rc.keep hb h1 h2, o1, h0.below hbw (Nat.le_refl _), hbw⟩, ht⟩
/-- the writes of an entry are stored. -/
theorem own_wr {w wr : World} {A B : Option Addr} {L : List Ev} {X : List Co} {g : Nat} {x : Co} {Y : List Xc} {E : List Ent} {W : World} {k : Nat} {e0 : Ent} {A1 A2 : Option Addr} {d1 d2 : Nat} {wt : List Sp} (h : NSe w wr A B L X g x Y E W) (hy : Y[k]? = some ⟨⟨e0.id, e0.com, e0.ovr, e0.rd, []⟩, A1, d1, none, 0⟩)
    (hr : SlAt W A1 d1 e0.rd) (hw : SlAt W A2 d2 wt) (f1 : ∀ a1, A1 = some a1 → g < a1.block) (f2 : ∀ a1, A2 = some a1 → g < a1.block) (h0 : Rn.At encE w A L) (hg : w.heap.size ≤ g) (hgw : g < wr.heap.size) (h1 : ∀ ad, B = some ad → ad.block < g) (h2 : ∀ x ∈ X, x.rb < g ∧ x.wb < g) :
    NSe w wr A B L X g x (Y.set k ⟨⟨e0.id, e0.com, e0.ovr, e0.rd, wt⟩, A1, d1, A2, d2⟩) (E.set k ⟨e0.id, e0.com, e0.ovr, e0.rd, wt⟩) (W.setCell ⟨g, k * 5 + 4, none⟩ (.slice A2 wt.length d2)) := by
  have p := h.ow.row.put hy 4 (by decide) (.slice A2 wt.length d2) (v' := ⟨⟨e0.id, e0.com, e0.ovr, e0.rd, wt⟩, A1, d1, A2, d2⟩) rfl
  have hb : Below g W (W.setCell ⟨g, k * 5 + 4, none⟩ (.slice A2 wt.length d2)) := (Below.refl g W).setCell (Nat.le_refl _) _
  have hgr : W.grownBy (W.setCell ⟨g, k * 5 + 4, none⟩ (.slice A2 wt.length d2)) (some g) := ⟨rfl, rfl, rfl, by simp [World.setCell], fun q hq hne => Below.heap_setCell _ _ _ _ (fun e => hne (by rw [e]))⟩
  have hbw := h.bel.trans (hb.mono hg)
  have hne : g ≠ wr.heap.size := by omega
  have hc : ∀ (i : Nat) (v : Value), W.cell? ⟨wr.heap.size, i, none⟩ = some v → (W.setCell ⟨g, k * 5 + 4, none⟩ (.slice A2 wt.length d2)).cell? ⟨wr.heap.size, i, none⟩ = some v := fun i v hv =>
    (World.cell?_of_block (w := W) (a := ⟨wr.heap.size, i, none⟩) (Below.heap_setCell _ _ _ _ (Ne.symm hne))).trans hv
  have hoff : ∀ u ∈ Y.set k ⟨⟨e0.id, e0.com, e0.ovr, e0.rd, wt⟩, A1, d1, A2, d2⟩, RdX W u ∧ Off (some g) u := fun u hu => by
    rcases List.mem_or_eq_of_mem_set hu with hu | rfl
    · exact ⟨h.ow.rd u hu, h.ow.off u hu⟩
    · exact ⟨⟨hr, hw⟩, fun a1 e _ e2 => (by have := f1 a1 e; have := Option.some.inj e2; omega), fun a1 e _ e2 => (by have := f2 a1 e; have := Option.some.inj e2; omega)⟩
  exact ⟨hc _ _ h.c0, hc _ _ h.c1, hc _ _ h.c2, hc _ _ h.c3, h.rc.keep hb h1 h2, ⟨p, by rw [List.map_set, h.ow.es], fun u hu => (hoff u hu).1.grown hgr (hoff u hu).2, fun u hu => (hoff u hu).2⟩, h0.below hbw (Nat.le_refl _), hbw⟩
set_option maxRecDepth 100000 in
set_option maxHeartbeats 8000000 in
theorem entries_any (A : Option Addr) (c : Nat) (L : List Ev) (w : World) (h : Rn.At encE w A L) (hok : ∀ e ∈ L, e.ok) (hl : L.length ≤ 2000) :
    Calls Try.prog 14 #[.slice A L.length c] w (ItS (entL L) w) := by
  have HC := Lib.hid (courses_s A c L w h hok hl)
  have H := Lib.hid h
  have HOK := Lib.hid hok
  have HLL := Lib.hid hl
  obtain ⟨i0, hi, hz0, hz1, hz2⟩ := info_parts Rp.ent_info
  have hstc : ∀ (W : World) (ad : Addr) (p q : Nat) (m : Mode), (store ad (.complex .f64 p q) m).run Try.prog W = stored Try.prog W ad (.complex .f64 p q) m := fun W ad p q m => run_store Try.prog W ad _ m rfl
  clear h hok
  go_enter Try.func14, Try.ntmps14
  go_wp2_with fail
  refine HC.out.mono ?_
  rintro r w1 ⟨B, d, X, rfl, hX, h1, h2, hr, he, hb⟩
  have HB := Lib.hid hb
  have HR := Lib.hid hr
  have HE := Lib.hid he
  have HX := Lib.hid hX
  have hXN : (X.length : Int) ≤ 32 := by omega
  clear hb he hr hX
  go_wp2_with (refine wpList_make encX rfl (.tmp 14) (.tmp 14) 40 rfl 44 i0 _ zeroX Try.underlying40 hi hz0 hz1 rfl (by rw [hz2]; decide) X.length (by have := HX.out; omega) rfl rfl ?_)
  intro w2 ho hb2 hs2
  have HO := Lib.hid (show OwnI 44 w2 w1.heap.size (.slice (some ⟨w1.heap.size, 0, none⟩) X.length X.length) (List.replicate X.length zeroX) (fill (entF L (cs X)) zeroE X.length 0) from
    ⟨ho, by rw [fill_zero, List.map_replicate]; rfl, fun u hu => by rw [List.eq_of_mem_replicate hu]; exact ⟨sl_nil _, sl_nil _⟩, fun u hu => by rw [List.eq_of_mem_replicate hu]; exact ⟨(fun a1 e => by cases e), (fun a1 e => by cases e)⟩⟩)
  have HB2 := Lib.hid (show Below w.heap.size w w2 from HB.out.trans (hb2.mono HB.out.size))
  have HG0 := Lib.hid HB.out.size
  have HR2 := Lib.hid (HR.out.below hb2)
  have HA2 := Lib.hid (H.out.below HB2.out (Nat.le_refl _))
  have HMG := Lib.hid HR.out.lt
  have HLT0 := Lib.hid (show 0 < X.length → ∀ ad, B = some ad → ad.block < w1.heap.size from fun hp ad e => by
    obtain ⟨ad', e', h'⟩ := at_lt HR.out.row hp
    rw [e] at e'; obtain rfl := Option.some.inj e'; exact h')
  clear ho hb2 hs2 HR
  generalize w1.heap.size = g at *
  go_wp2
  go_loopw [18] (EnRel w A B L X g) (fun i _ => X.length - (intOf i).toNat)
  case atStart => exact ⟨0, _, Nat.zero_le _, rfl, HR2.out, HO.out, HA2.out, HB2.out⟩
  case round =>
    obtain ⟨k, Y, hk, rfl, hr, ho, ha, hb⟩ := hrel
    have HO := Lib.hid ho
    have HB := Lib.hid hb
    have HR := Lib.hid hr
    have HAr := Lib.hid ha
    clear ho hb hr ha
    by_cases hlt : k < X.length
    · have hlt' : (k : Int) < (X.length : Int) := by omega
      have hx : X[k]? = some X[k] := List.getElem?_eq_getElem hlt
      generalize hXX : X[k] = x at hx
      have HKB := Lib.hid hlt
      have HKN := Lib.hid hlt'
      have HWK := Lib.hid (show IntKind.i64.wrap ((k : Int) + 1) = (k : Int) + 1 from by rw [IntKind.wrap_i64]; omega)
      have HMX := Lib.hid (List.mem_of_getElem? hx)
      have HGX := Lib.hid (HR.out.gc x HMX.out)
      have HOKC := Lib.hid (show Okc L.length x.c from crL_okL hl _ (by rw [← HE.out]; exact List.mem_map_of_mem HMX.out))
      have HFR := Lib.hid (show FitL L x.c.rd ∧ FitL L x.c.wr from ⟨HOKC.out.rdL, HOKC.out.wrL⟩)
      have HEN := Lib.hid (show entF L (cs X) k = entC L k x.c from by unfold entF; rw [cs_at hx])
      have HLT := Lib.hid (HLT0.out (by omega))
      have HG := Lib.hid (show w.heap.size ≤ g ∧ g < wr.heap.size from ⟨HG0.out, HO.out.row.lt.2⟩)
      obtain ⟨ad, rfl, c0, c1, c2, c3⟩ := atC HR.out.row hx
      have hbx := heap_alloc_new wr (.cells (coA x) 71)
      have HS0 := Lib.hid (show NSe w wr A (some ad) L X g x Y (fill (entF L (cs X)) zeroE X.length k) (wr.alloc (.cells (coA x) 71)) from
        ⟨cell_of_row _ _ 0 _ _ _ hbx, cell_of_row _ _ 1 _ _ _ hbx, cell_of_row _ _ 2 _ _ _ hbx, cell_of_row _ _ 3 _ _ _ hbx, HR.out.below (Rn.below_new _ _), HO.out.below (Rn.below_new _ _), HAr.out.alloc _, HB.out.alloc HB.out.size _⟩)
      clear hx hXX hbx
      unfold coA at HS0
      go_wp2
      generalize wr.alloc (.cells #[.complex .f64 (cr x.c) (ci x.c), .bool x.c.com, .map (some x.rb), .map (some x.wb)] 71) = W0 at HS0 ⊢
      refine wp_region_noPanic ?_
      refine region_z 15 (fun W => NSe w wr A (some ad) L X g x Y (fill (entF L (cs X)) zeroE X.length k) W) 14 1000 rfl (by kernel_rfl) (by exact HS0.out.drew) (fun hHeld => ?_)
      refine take_d [13, 14] 0 23 (.slice (some ⟨g, 0, none⟩) X.length X.length) rfl rfl (by kernel_rfl) (by kernel_rfl) (by kernel_rfl) (by kernel_rfl) (fun _ _ _ h => h) (Or.inl ⟨by rfl, by intro W hW; clear hW; go_simp⟩) hHeld ?_
      simp only [put_laws]
      refine take_d [13, 14] 1 24 (.int .i64 (k : Nat)) rfl rfl (by kernel_rfl) (by kernel_rfl) (by kernel_rfl) (by kernel_rfl) (fun _ _ _ h => h) (Or.inl ⟨by rfl, by intro W hW; clear hW; go_simp⟩) hHeld ?_
      simp only [put_laws]
      refine take_d [3, 12, 13, 14] 2 25 (.int .i64 (k : Nat)) rfl rfl (by kernel_rfl) (by kernel_rfl) (by kernel_rfl) (by kernel_rfl) (fun _ _ _ h => h) (Or.inl ⟨by rfl, by intro W hW; clear hW; go_simp⟩) hHeld ?_
      simp only [put_laws]
      refine take_d [12, 13, 14] 3 26 (.int .i64 ((k : Int) + 1)) rfl rfl (by kernel_rfl) (by kernel_rfl) (by kernel_rfl) (by kernel_rfl) (fun _ _ _ h => h) (Or.inl ⟨by rfl, by intro W hW; have hk2 := HKN.out; have hwk := HWK.out; clear hW; go_simp⟩) hHeld ?_
      simp only [put_laws]
      refine take_d [5, 12, 13, 14] 4 27 (.pointer (some ⟨wr.heap.size, 1, none⟩)) rfl rfl (by kernel_rfl) (by kernel_rfl) (by kernel_rfl) (by kernel_rfl) (fun _ _ _ h => h) (Or.inl ⟨by rfl, by intro W hW; clear hW; go_simp⟩) hHeld ?_
      simp only [put_laws]
      refine take_d [12, 13, 14] 5 28 (.bool x.c.com) rfl rfl (by kernel_rfl) (by kernel_rfl) (by kernel_rfl) (by kernel_rfl) (fun _ _ _ h => h) (Or.inl ⟨by rfl, by intro W hW; have c := hW.c1; clear hW; go_simp⟩) hHeld ?_
      simp only [put_laws]
      refine take_d [7, 11, 12, 13, 14] 6 29 (.agg (#[.complex .f64 (cr x.c) (ci x.c), .bool x.c.com, .map (some x.rb), .map (some x.wb)])) rfl rfl (by kernel_rfl) (by kernel_rfl) (by kernel_rfl) (by kernel_rfl) (fun _ _ _ h => h) (Or.inl ⟨by rfl, by intro W hW; have c0 := hW.c0; have c1 := hW.c1; have c2 := hW.c2; have c3 := hW.c3; clear hW; go_simp⟩) hHeld ?_
      simp only [put_laws]
      refine take_d [11, 12, 13, 14] 8 31 (.slice A L.length c) rfl rfl (by kernel_rfl) (by kernel_rfl) (by kernel_rfl) (by kernel_rfl) (fun _ _ _ h => h) (Or.inl ⟨by rfl, by intro W hW; clear hW; go_simp⟩) hHeld ?_
      simp only [put_laws]
      refine take_d [10, 11, 12, 13, 14] 9 32 (.pointer (some ⟨wr.heap.size, 2, none⟩)) rfl rfl (by kernel_rfl) (by kernel_rfl) (by kernel_rfl) (by kernel_rfl) (fun _ _ _ h => h) (Or.inl ⟨by rfl, by intro W hW; clear hW; go_simp⟩) hHeld ?_
      simp only [put_laws]
      refine take_d [11, 12, 13, 14] 10 33 (.map (some x.rb)) rfl rfl (by kernel_rfl) (by kernel_rfl) (by kernel_rfl) (by kernel_rfl) (fun _ _ _ h => h) (Or.inl ⟨by rfl, by intro W hW; have c := hW.c2; clear hW; go_simp⟩) hHeld ?_
      simp only [put_laws]
      refine anyZ_ready (rs := [7]) (by kernel_rfl) (by simp) ?_
      refine AllZ.cons rfl (fun K hK => ?_) AllZ.nil
      go_simp
      refine (over_any x HGX.out _).mono ?_
      rintro e w2 ⟨rfl, hb⟩
      try go_simp
      have hPrev := hHeld
      have hHeld := hHeld.below hb
      clear hPrev
      refine hK.out _ _ hHeld (fun hHeld => ?_)
      clear hK K
      refine anyZ_ready (rs := [11]) (by kernel_rfl) (by simp) ?_
      refine AllZ.cons rfl (fun K hK => ?_) AllZ.nil
      go_simp
      refine (steps_m A c L x.rb x.c.rd _ hHeld.h HOK.out HLL.out (hHeld.rc.mp x HMX.out).1 HFR.out.1).mono ?_
      rintro e w3 ⟨A1, d1, rfl, hsl, hfr, hb⟩
      try go_simp
      have hPrev := hHeld
      have hHeld := hHeld.below hb
      have hof : ∀ a1, A1 = some a1 → g < a1.block := fun a1 e => Nat.lt_of_lt_of_le hPrev.ow.row.lt.2 (hfr a1 e)
      clear hfr
      clear hPrev
      refine hK.out _ _ hHeld (fun hHeld => ?_)
      clear hK K
      refine take_d [13, 14] 12 35 (.agg (#[.int .i64 ((k : Int) + 1), .bool x.c.com, .bool (over x.c), .slice A1 (stepsF L x.c.rd).length d1, .slice none 0 0])) rfl rfl (by kernel_rfl) (by kernel_rfl) (by kernel_rfl) (by kernel_rfl) (fun _ _ _ h => h) (Or.inl ⟨by rfl, by intro W hW; clear hW; go_simp⟩) hHeld ?_
      simp only [put_laws]
      refine take_d [14] 13 36 (.pointer (some ⟨g, k * 5, none⟩)) rfl rfl (by kernel_rfl) (by kernel_rfl) (by kernel_rfl) (by kernel_rfl) (fun _ _ _ h => h) (Or.inl ⟨by rfl, by intro W hW; have hk := HKB.out; have hk2 := HKN.out; clear hW; go_simp⟩) hHeld ?_
      simp only [put_laws]
      refine anyZ_ready (rs := [14]) (by kernel_rfl) (by simp) ?_
      refine AllZ.last rfl rfl (fun K hK => ?_)
      have hput := NSe.put (k := k) (y := ⟨⟨(k : Int) + 1, x.c.com, over x.c, stepsF L x.c.rd, []⟩, A1, d1, none, 0⟩) (e0 := ⟨(k : Int) + 1, x.c.com, over x.c, stepsF L x.c.rd, []⟩) hHeld H.out (by rw [fill_len]; exact HKB.out) rfl ⟨hsl, sl_nil _⟩ ⟨fun a1 e _ e2 => (by have := hof a1 e; have := Option.some.inj e2; omega), fun a1 e => (by cases e)⟩ HG.out.1 HG.out.2 HLT.out HMG.out
      refine step_store_mid rfl 44 (.tmp 36) (.tmp 35) rfl rfl g (k * 5) #[.int .i64 ((k : Int) + 1), .bool x.c.com, .bool (over x.c), .slice A1 (stepsF L x.c.rd).length d1, .slice none 0 0] rfl rfl hput.2 ent_size (ent_one ⟨⟨(k : Int) + 1, x.c.com, over x.c, stepsF L x.c.rd, []⟩, A1, d1, none, 0⟩) ?_
      have HS5 := Lib.hid hput.1
      have HOF := Lib.hid (show (∀ a1, A1 = some a1 → g < a1.block) from hof)
      have HSL5 := Lib.hid (show SlAt (World.setCells _ g (k * 5) _) A1 d1 (stepsF L x.c.rd) from ((hput.1.ow.rd ⟨⟨(k : Int) + 1, x.c.com, over x.c, stepsF L x.c.rd, []⟩, A1, d1, none, 0⟩ (List.mem_iff_getElem?.2 ⟨k, by rw [List.getElem?_set_self (by rw [hHeld.ow.len, fill_len]; exact HKB.out)]⟩)).rd))
      refine hK.out _ _ ?_
      clear hK K hHeld hsl hput hof
      refine anyZ_done (by kernel_rfl) ?_ _
      refine NoPanic.normal ?_
      generalize World.setCells _ g (k * 5) _ = w5 at HS5 HSL5 ⊢
      cases hcom : x.c.com with
      | false =>
        have HF5 := Lib.hid (show (fill (entF L (cs X)) zeroE X.length k).set k ⟨(k : Int) + 1, x.c.com, over x.c, stepsF L x.c.rd, []⟩ = fill (entF L (cs X)) zeroE X.length (k + 1) from by
          rw [← fill_set]
          congr 1
          rw [HEN.out, hcom]
          simp [entC, hcom])
        have c1 := HS5.out.c1
        rw [hcom] at c1
        clear hcom
        go_wp2
        go_roundw
        case rel => exact ⟨k + 1, _, by have := HKB.out; omega, by go_num, HS5.out.rc, by have := HS5.out.ow; rw [HF5.out] at this; exact this, HS5.out.h, HS5.out.bel⟩
        case measure => simp [intOf]; have := HKB.out; omega
      | true =>
        have HCOM := Lib.hid hcom
        have c1 := HS5.out.c1
        have c3 := HS5.out.c3
        rw [hcom] at c1
        clear hcom
        have hk2 := HKN.out
        go_wp2_with fail
        refine (steps_m A c L x.wb x.c.wr _ HS5.out.h HOK.out HLL.out (HS5.out.rc.mp x HMX.out).2 HFR.out.2).mono ?_
        rintro r w6 ⟨A2, d2, rfl, hsl2, hfr2, hb6⟩
        have HS6 := Lib.hid (HS5.out.below hb6)
        have HOF2 := Lib.hid (show ∀ a1, A2 = some a1 → g < a1.block from fun a1 e => Nat.lt_of_lt_of_le HS5.out.ow.row.lt.2 (hfr2 a1 e))
        have HSL2 := Lib.hid hsl2
        have HSL6 := Lib.hid (HSL5.out.below hb6)
        clear hsl2 hfr2 hb6 c1 c3
        have hy5 : (Y.set k ⟨⟨(k : Int) + 1, x.c.com, over x.c, stepsF L x.c.rd, []⟩, A1, d1, none, 0⟩)[k]? = some ⟨⟨(k : Int) + 1, x.c.com, over x.c, stepsF L x.c.rd, []⟩, A1, d1, none, 0⟩ := by rw [List.getElem?_set_self (by have := HS5.out.ow.len; rw [List.length_set, List.length_set, fill_len] at this; rw [this]; exact HKB.out)]
        have cc := HS6.out.ow.row.get hy5 4 (by decide)
        have ff := HS6.out.ow.row.free (k * 5 + 4)
        have HPT := Lib.hid (own_wr (e0 := ⟨(k : Int) + 1, x.c.com, over x.c, stepsF L x.c.rd, []⟩) HS6.out hy5 HSL6.out HSL2.out HOF.out HOF2.out H.out HG.out.1 HG.out.2 HLT.out HMG.out)
        have HF6 := Lib.hid (show ((fill (entF L (cs X)) zeroE X.length k).set k ⟨(k : Int) + 1, x.c.com, over x.c, stepsF L x.c.rd, []⟩).set k ⟨(k : Int) + 1, x.c.com, over x.c, stepsF L x.c.rd, stepsF L x.c.wr⟩ = fill (entF L (cs X)) zeroE X.length (k + 1) from by
          rw [List.set_set, ← fill_set]
          congr 1
          rw [HEN.out]
          simp [entC, HCOM.out])
        clear hy5
        simp only [List.getElem?_cons_succ, List.getElem?_cons_zero, List.length_nil] at cc
        go_wp2
        go_roundw
        case rel => exact ⟨k + 1, _, by have := HKB.out; omega, by go_num, HPT.out.rc, by have := HPT.out.ow; rw [HF6.out] at this; exact this, HPT.out.h, HPT.out.bel⟩
        case measure => simp [intOf]; have := HKB.out; omega
    · have hlt' : ¬ (k : Int) < (X.length : Int) := by omega
      obtain rfl : k = X.length := by omega
      have HF := Lib.hid (show OwnI 44 wr g (.slice (some ⟨g, 0, none⟩) X.length X.length) Y (entL L) from by
        have := HO.out
        rw [fill_all, ← cs_len X] at this
        unfold entL
        rw [← HE.out]
        rw [cs_len] at this ⊢
        exact this)
      go_wp2
      go_ret
      obtain ⟨B', d', e1, e2, e3, e4⟩ := HF.out.slice
      exact ⟨B', d', Y, congrArg Ending.returned e1, e2, e3, e4, HB.out⟩
end Go.Proofs.Ytaonepbongbhoaa.Hi
