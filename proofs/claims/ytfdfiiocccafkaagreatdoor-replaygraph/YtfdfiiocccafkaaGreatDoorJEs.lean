/-
  DERIVED: THE SHELF's CONTRACTS AT THIS DUMP, IN PLAIN WORDS (tools/lay-plain.mjs out of 'YtfdfiiocccafkaaGreatDoorShelf.lean', which tools/lay-shelf.mjs wrote): THE SAME DECLARATIONS UNDER THE SAME NAMES: 'import', 'namespace', 'open', 'def', 'theorem' AND NOTHING ELSE: no command of the shelf's: FOR A HAND-IN. Each laying: the table of numbers ('.._ren') and one theorem, a field a fact of the dump's own or the kernel's comparison; each contract: ONE APPLICATION.
  The library's SortFunc at a row of slots, by their places in an engine's order.
  The contract of Rest.
-/
import Derived.Shelf.SlSortCmp.Whole1
import Derived.Shelf.SlicesG.Cmp
import Derived.Ground.SlsfProg
import Derived.Ground.SlgcProg
import Derived.Test.YtfdfiiocccafkaaGreatDoorProg
import Derived.Test.YtfdfiiocccafkaaGreatDoorJEn
import Derived.Test.YtfdfiiocccafkaaGreatDoorJEm
import Derived.Shelf.SlSortCmp.NoneTotal
namespace Go.Proofs
open Go.Shelf
def Tryz.sortI_ren : Go.Shelf.Ren := ⟨fun | 6 => 40 | 15 => 83 | 14 => 82 | 28 => 131 | 29 => 132 | 20 => 123 | 21 => 124 | 22 => 125 | 23 => 126 | 24 => 127 | 25 => 128 | 26 => 129 | 27 => 130 | 46 => 156 | 47 => 157 | 48 => 158 | 49 => 159 | 50 => 160 | 57 => 176 | n => n, fun | 22 => 107 | 24 => 3 | 25 => 110 | 3 => 3 | 39 => 160 | 0 => 0 | 53 => 212 | 55 => 46 | 4 => 4 | 46 => 221 | 45 => 220 | 50 => 225 | 5 => 5 | 9 => 9 | 66 => 252 | 70 => 256 | 76 => 273 | 77 => 66 | n => n, fun | n => n⟩
theorem Tryz.sortI : Go.Proofs.SlLaysF.n6 Tryz.prog Tryz.sortI_ren := {
  mixed := by kernel_rfl
  f6 := ⟨Tryz.f40.name, by decide, Tryz.func40.trans (congrArg some (by kernel_rfl))⟩
  f14 := ⟨Tryz.f82.name, by decide, Tryz.func82.trans (congrArg some (by kernel_rfl))⟩
  f15 := Tryz.func83.trans (congrArg some (by kernel_rfl))
  f20 := ⟨Tryz.f123.name, by decide, Tryz.func123.trans (congrArg some (by kernel_rfl))⟩
  f21 := ⟨Tryz.f124.name, by decide, Tryz.func124.trans (congrArg some (by kernel_rfl))⟩
  f22 := ⟨Tryz.f125.name, by decide, Tryz.func125.trans (congrArg some (by kernel_rfl))⟩
  f23 := ⟨Tryz.f126.name, by decide, Tryz.func126.trans (congrArg some (by kernel_rfl))⟩
  f24 := ⟨Tryz.f127.name, by decide, Tryz.func127.trans (congrArg some (by kernel_rfl))⟩
  f25 := ⟨Tryz.f128.name, by decide, Tryz.func128.trans (congrArg some (by kernel_rfl))⟩
  f26 := ⟨Tryz.f129.name, by decide, Tryz.func129.trans (congrArg some (by kernel_rfl))⟩
  f27 := ⟨Tryz.f130.name, by decide, Tryz.func130.trans (congrArg some (by kernel_rfl))⟩
  f28 := Tryz.func131.trans (congrArg some (by kernel_rfl))
  f29 := Tryz.func132.trans (congrArg some (by kernel_rfl))
  f46 := ⟨Tryz.f156.name, by decide, Tryz.func156.trans (congrArg some (by kernel_rfl))⟩
  f47 := Tryz.func157.trans (congrArg some (by kernel_rfl))
  f48 := Tryz.func158.trans (congrArg some (by kernel_rfl))
  f49 := ⟨Tryz.f159.name, by decide, Tryz.func159.trans (congrArg some (by kernel_rfl))⟩
  f50 := ⟨Tryz.f160.name, by decide, Tryz.func160.trans (congrArg some (by kernel_rfl))⟩
  f57 := ⟨Tryz.f176.name, by decide, Tryz.func176.trans (congrArg some (by kernel_rfl))⟩
  t0 := Tryz.underlying0
  a0 := Tryz.isAgg0
  z0 := Tryz.sizeOf0
  v0 := Tryz.zeroValue0
  t3 := Tryz.underlying3
  a3 := Tryz.isAgg3
  z3 := Tryz.sizeOf3
  v3 := Tryz.zeroValue3
  t4 := Tryz.underlying4
  a4 := Tryz.isAgg4
  z4 := Tryz.sizeOf4
  v4 := Tryz.zeroValue4
  t5 := Tryz.underlying5
  a5 := Tryz.isAgg5
  z5 := Tryz.sizeOf5
  v5 := Tryz.zeroValue5
  t9 := Tryz.underlying9
  a9 := Tryz.isAgg9
  z9 := Tryz.sizeOf9
  v9 := Tryz.zeroValue9
  t22 := Tryz.underlying107
  a22 := Tryz.isAgg107
  z22 := Tryz.sizeOf107
  v22 := Tryz.zeroValue107
  a24 := Tryz.isAgg3
  z24 := Tryz.sizeOf3
  t25 := Tryz.underlying110
  a25 := Tryz.isAgg110
  z25 := Tryz.sizeOf110
  v25 := Tryz.zeroValue110
  t39 := Tryz.underlying160
  a39 := Tryz.isAgg160
  z39 := Tryz.sizeOf160
  v39 := Tryz.zeroValue160
  t45 := Tryz.underlying220
  a45 := Tryz.isAgg220
  z45 := Tryz.sizeOf220
  v45 := Tryz.zeroValue220
  t46 := Tryz.underlying221
  a46 := Tryz.isAgg221
  z46 := Tryz.sizeOf221
  v46 := Tryz.zeroValue221
  t50 := Tryz.underlying225
  a50 := Tryz.isAgg225
  z50 := Tryz.sizeOf225
  v50 := Tryz.zeroValue225
  t53 := Tryz.underlying212
  a53 := Tryz.isAgg212
  z53 := Tryz.sizeOf212
  v53 := Tryz.zeroValue212
  t55 := Tryz.underlying46
  a55 := Tryz.isAgg46
  z55 := Tryz.sizeOf46
  v55 := Tryz.zeroValue46
  t66 := Tryz.underlying252
  a66 := Tryz.isAgg252
  z66 := Tryz.sizeOf252
  v66 := Tryz.zeroValue252
  t70 := Tryz.underlying256
  a70 := Tryz.isAgg256
  z70 := Tryz.sizeOf256
  v70 := Tryz.zeroValue256
  t76 := Tryz.underlying273
  a76 := Tryz.isAgg273
  z76 := Tryz.sizeOf273
  v76 := Tryz.zeroValue273
  t77 := Tryz.underlying66
  a77 := Tryz.isAgg66
  z77 := Tryz.sizeOf66
  v77 := Tryz.zeroValue66 }
def Tryz.cmpI_ren : Go.Shelf.Ren := ⟨fun | 5 => 42 | 7 => 84 | n => n, fun | 22 => 3 | 3 => 3 | 4 => 4 | n => n, fun | n => n⟩
theorem Tryz.cmpI : Go.Proofs.SlLaysC2.n5 Tryz.prog Tryz.cmpI_ren := {
  mixed := by kernel_rfl
  f5 := ⟨Tryz.f42.name, by decide, Tryz.func42.trans (congrArg some (by kernel_rfl))⟩
  f7 := ⟨Tryz.f84.name, by decide, Tryz.func84.trans (congrArg some (by kernel_rfl))⟩
  t3 := Tryz.underlying3
  a3 := Tryz.isAgg3
  z3 := Tryz.sizeOf3
  v3 := Tryz.zeroValue3
  t4 := Tryz.underlying4
  a4 := Tryz.isAgg4
  z4 := Tryz.sizeOf4
  v4 := Tryz.zeroValue4
  t22 := Tryz.underlying3
  a22 := Tryz.isAgg3
  z22 := Tryz.sizeOf3
  v22 := Tryz.zeroValue3 }
end Go.Proofs
namespace Go.Proofs.YtfdfiiocccafkaaGreatDoor.En
open Go.Shelf Go.RowKit Go.Lib Go.Sort
def encF (i : Fin 32) : Value := .int .i64 ((i.val : Nat) : Int)
def cfO (o : Nat → Int) (i j : Fin 32) : Int := Lib.compareInt (o i.val) (o j.val)
theorem ltO (o : Nat → Int) (i j : Fin 32) : ltOf (cfO o) i j = decide (o i.val < o j.val) := by
  unfold ltOf cfO Lib.compareInt
  by_cases h1 : o i.val < o j.val
  · simp [h1]
  · by_cases h2 : o j.val < o i.val <;> simp [h1, h2]
theorem swoO (o : Nat → Int) : SWO (ltOf (cfO o)) where
  irrefl x := by rw [ltO]; simp
  trans x y z h1 h2 := by rw [ltO] at *; simp at *; omega
  ntrans x y z h1 h2 := by rw [ltO] at *; simp at *; omega
theorem cmp_val {x y r : Int} (h : Lib.compareInt x y = r) (W : World) (n : Nat) : Calls Tryz.prog 42 #[.int .i64 x, .int .i64 y] (W.drewN n) fun e w' => e = .returned (.int .i64 r) ∧ ∃ m, w' = W.drewN m := by
  subst h
  have hcon := AnyG.cmp_Compare_int Tryz.cmpI x y (W.drewN n)
  change Calls Tryz.prog 42 _ _ _ at hcon
  exact hcon.mono fun _ _ hh => ⟨hh.1, n, hh.2⟩
set_option maxHeartbeats 2000000 in
set_option maxRecDepth 100000 in
theorem restL_any {b x i j : Nat} {p q : Int} (W : World) (hx : W.cell? ⟨x, 0, none⟩ = some (.pointer (some ⟨b, 0, none⟩))) (hi : W.cell? ⟨b, 33 + i, none⟩ = some (.int .i64 p)) (hj : W.cell? ⟨b, 33 + j, none⟩ = some (.int .i64 q)) (hi32 : i < 32) (hj32 : j < 32) :
    Calls Tryz.prog 41 #[.int .i64 (i : Nat), .int .i64 (j : Nat), .pointer (some ⟨x, 0, none⟩)] W fun e w' => e = .returned (.int .i64 (Lib.compareInt p q)) ∧ ∃ n, w' = W.drewN n := by
  generalize hr : Lib.compareInt p q = r
  have HR := Lib.hid hr
  clear hr
  go_enter Tryz.func41, Tryz.ntmps41
  go_wp2
  go_quiet (first | (go_at_call 42; exact cmp_val HR.out _ _))
  go_wp2
  go_ret
  exact ⟨rfl, _, rfl⟩
theorem holdsF {w : World} {g : Nat} {cur : Array Value} {e : TypeId} {L : List (Fin 32)} (hb : w.heap[g]? = some (.cells cur e (0, 0))) (ht : cur.toList.take L.length = L.map encF) : Holds encF w g 0 L.toArray := by
  intro j hj
  have hj' : j < L.length := by simpa using hj
  refine ⟨?_, by simp [World.frozen?, hb]⟩
  have h1 : (cur.toList.take L.length)[j]? = (L.map encF)[j]? := by rw [ht]
  rw [List.getElem?_take_of_lt hj'] at h1
  simp only [World.cell?, hb, Nat.zero_add]
  simp only [Option.isSome_none, Bool.false_eq_true, if_false]
  rw [← Array.getElem?_toList, h1]
  simp [hj']
theorem heap_sortedF {w : World} {g n : Nat} {os : Array Obj} {cur : Array Value} {e : TypeId} {fr : Nat × Nat} (d : Array (Fin 32)) (hb : w.heap[g]? = some (.cells cur e fr)) :
    (grow (putRow encF (Sort.ahead w n) g 0 d) os).heap[g]? = some (.cells (putCells encF 0 d cur) e fr) := by
  have hg : g < w.heap.size := (Array.getElem?_eq_some_iff.1 hb).1
  rw [heap_grow_old _ _ (by simpa using hg)]
  simp [putRow, mapBlock, Sort.ahead, Array.getElem?_modify, hb, onCells]
theorem grownBy_sortedF {w : World} {g n : Nat} {os : Array Obj} (d : Array (Fin 32)) : w.grownBy (grow (putRow encF (Sort.ahead w n) g 0 d) os) (some g) := by
  refine ⟨rfl, rfl, rfl, by simp, fun k hk hne => ?_⟩
  rw [heap_grow_old _ _ (by simpa using hk)]
  have : g ≠ k := fun e => hne (by rw [e])
  simp [putRow, mapBlock, Sort.ahead, Array.getElem?_modify, this]
theorem take_putCellsF (cur : Array Value) (L : List (Fin 32)) (h : L.length ≤ cur.size) : (putCells encF 0 L.toArray cur).toList.take L.length = L.map encF := by
  apply List.ext_getElem?
  intro j
  by_cases hj : j < L.length
  · rw [List.getElem?_take_of_lt hj, Array.getElem?_toList]
    simp [putCells, hj, show j < cur.size by omega]
  · rw [List.getElem?_take_eq_none (by omega), List.getElem?_eq_none (by simp; omega)]
theorem vals_fin (L : List (Fin 32)) : Go.Proofs.YtfdfiiocccafkaaGreatDoor.vals (L.map (·.val)) = L.map encF := by
  unfold Go.Proofs.YtfdfiiocccafkaaGreatDoor.vals
  rw [List.map_map]; rfl
theorem sort_any (o : Nat → Int) {g base n cap x b : Nat} {L : List (Fin 32)} {w : World} (hr : Own w base (.slice (some ⟨g, 0, none⟩) n cap) (L.map (·.val))) (hx : w.cell? ⟨x, 0, none⟩ = some (.pointer (some ⟨b, 0, none⟩))) (ho : ∀ i, i < 32 → w.cell? ⟨b, 33 + i, none⟩ = some (.int .i64 (o i))) (hxg : x ≠ g) (hbg : b ≠ g) (hll : L.length ≤ 64) :
    Calls Tryz.prog 40 #[.slice (some ⟨g, 0, none⟩) n cap, .func (.func 41) #[] #[.pointer (some ⟨x, 0, none⟩)]] w fun e w' => e = .returned (.tuple #[]) ∧ ∃ M : List (Fin 32), M.Perm L ∧ M.Pairwise (fun i j => o i.val ≤ o j.val) ∧ Own w' base (.slice (some ⟨g, 0, none⟩) n cap) (M.map (·.val)) ∧ w.grownBy w' (some g) := by
  rcases hr.2 with ⟨e, _⟩ | ⟨q, cp, cur, e, hb, hg, hn, hm, hs, ht⟩
  · injection e with e; cases e
  obtain ⟨e1, e2, e3⟩ := Value.slice.inj e
  obtain rfl : g = q := by have := Option.some.inj e1; injection this
  rw [List.length_map] at e2 hn ht e
  subst e2; subst e3
  rw [Nat.mul_one, vals_fin] at ht
  have hH := holdsF hg ht
  have hgl : g < w.heap.size := (Array.getElem?_eq_some_iff.1 hg).1
  have eg : ∀ args w, (callFunc 41 args).run Tryz.prog w = .ok (.enter 41 args) w := enters_of Tryz.func41 (by kernel_rfl) rfl
  have hcmp : CmpReads Tryz.prog 41 #[.pointer (some ⟨x, 0, none⟩)] encF (cfO o) g 0 L.toArray.size w := by
    intro m os dk hsz i j
    have hcell : ∀ (p : Addr) (v : Value), p.block ≠ g → w.cell? p = some v → (sortWorld encF w g 0 m dk os).cell? p = some v := fun p v hp hv => by
      have hgb := grownBy_sortedF (w := w) (g := g) (n := m) (os := os) dk
      exact (World.cell?_of_block (w := w) (hgb.block p.block (World.block_lt_of_cell? w p hv) (fun e => hp (Option.some.inj e)))).trans hv
    exact restL_any (sortWorld encF w g 0 m dk os) (hcell _ _ hxg hx) (hcell _ _ hbg (ho i.val i.isLt)) (hcell _ _ hbg (ho j.val j.isLt)) i.isLt j.isLt
  have hcon := Any.slices_SortFunc Tryz.sortI encF (fun _ => rfl) (cfO o) (swoO o) 41 #[.pointer (some ⟨x, 0, none⟩)] g 0 cap L.toArray w eg hcmp.lays hH hgl (by rw [List.size_toArray]; omega)
  change Calls Tryz.prog 40 _ _ _ at hcon
  rw [List.size_toArray] at hcon
  refine hcon.mono ?_
  rintro e w' ⟨rfl, d', m, os, hp, hso, rfl⟩
  obtain ⟨hp1, _, hp3⟩ := hp
  rw [List.size_toArray] at hp1
  have hd : d'.toList.length = L.length := by simpa using hp1
  have hperm : d'.toList.Perm L := by
    have hds : d'.size = L.length := by simpa using hp1
    have e1 : d'.extract 0 L.length = d' := by rw [← hds]; exact Array.extract_size
    have e2 : L.toArray.extract 0 L.length = L.toArray := by
      have : L.length = L.toArray.size := by simp
      rw [this]; exact Array.extract_size
    rw [e1, e2] at hp3
    exact hp3
  refine ⟨rfl, d'.toList, hperm, ?_, ?_, grownBy_sortedF d'⟩
  · rw [List.pairwise_iff_getElem]
    intro i j hi hj hij
    have := hso i j (Nat.zero_le _) hij (by rw [← hd]; exact hj)
    rw [ltO] at this
    have h1 : d'[i]! = d'.toList[i] := by simp at hi; simp [hi]
    have h2 : d'[j]! = d'.toList[j] := by simp at hj; simp [hj]
    rw [h1, h2] at this
    have := of_decide_eq_false this
    omega
  · refine ⟨by rw [vals_fin]; simp, .inr ⟨g, cap, _, by rw [List.length_map, hd], hb, heap_sortedF d' hg, by rw [List.length_map, hd]; exact hn, hm, by simp [putCells, hs], ?_⟩⟩
    rw [Nat.mul_one, List.length_map, vals_fin]
    exact take_putCellsF cur d'.toList (by rw [hd, hs]; omega)
end Go.Proofs.YtfdfiiocccafkaaGreatDoor.En
namespace Go.Proofs.YtfdfiiocccafkaaGreatDoor.En
open Go.RowKit
attribute [local go_sem ↓] Go.wp_at_zero Go.wp_at_succ
theorem perm_sorted {α : Type} {le : α → α → Prop} : ∀ {l k : List α}, l.Perm k → l.Pairwise le → k.Pairwise le → (∀ a ∈ l, ∀ b ∈ l, le a b → le b a → a = b) → l = k
  | [], k, h, _, _, _ => (List.nil_perm.1 h).symm ▸ rfl
  | a :: l, k, h, h1, h2, ha => by
    rcases k with _ | ⟨b, k⟩
    · exact absurd h.symm (by simp)
    · rw [List.pairwise_cons] at h1 h2
      have hb : b ∈ a :: l := h.mem_iff.2 (by simp)
      have ha' : a ∈ b :: k := h.mem_iff.1 (by simp)
      have e : a = b := by
        rcases List.mem_cons.1 hb with e | hb'
        · exact e.symm
        · rcases List.mem_cons.1 ha' with e | ha''
          · exact e
          · exact ha a (by simp) b hb (h1.1 b hb') (h2.1 a ha'')
      subst e
      rw [perm_sorted (List.Perm.cons_inv h) h1.2 h2.2 (fun x hx y hy => ha x (by simp [hx]) y (by simp [hy]))]
theorem fin_list : ∀ (l : List Nat), (∀ i ∈ l, i < 32) → ∃ L : List (Fin 32), L.map (·.val) = l
  | [], _ => ⟨[], rfl⟩
  | i :: l, h => by
    obtain ⟨L, hL⟩ := fin_list l (fun j hj => h j (by simp [hj]))
    exact ⟨⟨i, h i (by simp)⟩ :: L, by rw [List.map_cons, hL]⟩
/-- sorted by places, all that are there are the slots. -/
theorem sorted_slots {g : Eng} (hs : Po.Sound g.p) {L M : List (Fin 32)} (hL : L.map (·.val) = Sm.items (tkB g)) (hp : M.Perm L) (ho : M.Pairwise fun i j => g.p.o i.val ≤ g.p.o j.val) : M.map (·.val) = slots g := by
  have hr := hs.sorted.1
  have hl := slots_lin hs
  have h1 : (M.map (·.val)).Perm (slots g) := by
    have h2 : (M.map (·.val)).Perm (Sm.items (tkB g)) := by rw [← hL]; exact hp.map _
    refine h2.trans ((List.perm_ext_iff_of_nodup (Po.items_nodup _) hl.nodup).2 fun i => ?_)
    rw [Sm.items_mem, hl.mem, tkB_test]
    exact ⟨fun h => h.2, fun h => ⟨by have := hs.tk32 h; omega, h⟩⟩
  have h3 : (slots g).Pairwise fun i j => g.p.o i ≤ g.p.o j := by
    show (Od.standing g.p.o (tkB g)).Pairwise _
    rw [Od.standing_eq, List.pairwise_map]
    refine (Od.places_rise g.p.o (tkB g)).imp_of_mem fun {a b} ha hb hab => ?_
    rw [(Od.at_spec hr (Od.places_mem.1 ha).1).2, (Od.at_spec hr (Od.places_mem.1 hb).1).2]
    omega
  refine perm_sorted h1 (List.pairwise_map.2 ho) h3 fun a ha b hb hab hba => ?_
  have e : g.p.o a = g.p.o b := by omega
  have ha32 := hs.tk32 ((hl.mem a).1 (h1.mem_iff.1 ha))
  have hb32 := hs.tk32 ((hl.mem b).1 (h1.mem_iff.1 hb))
  have p1 := (hr.pl ha32).2.2
  have p2 := (hr.pl hb32).2.2
  have e2 : Od.pl g.p.o a = Od.pl g.p.o b := by unfold Od.pl; rw [e]
  rw [← p1, ← p2, e2]
theorem items_own (x : Nat) (w : World) (hx : x < 18446744073709551616) (hT : TabAt w) : Calls Tryz.prog 39 #[.int .u64 x] w fun e w' => ∃ v, e = .returned v ∧ Own w' w.heap.size v (Sm.items x) ∧ Below w.heap.size w w' := items_any x w hx hT
theorem sort_all (o : Nat → Int) {base x b : Nat} {v : Value} {L : List (Fin 32)} {w : World} (hr : Own w base v (L.map (·.val))) (hx : w.cell? ⟨x, 0, none⟩ = some (.pointer (some ⟨b, 0, none⟩))) (ho : ∀ i, i < 32 → w.cell? ⟨b, 33 + i, none⟩ = some (.int .i64 (o i))) (hxg : x < base) (hbg : b < base) (hll : L.length ≤ 64) :
    Calls Tryz.prog 40 #[v, .func (.func 41) #[] #[.pointer (some ⟨x, 0, none⟩)]] w fun e w' => e = .returned (.tuple #[]) ∧ ∃ M : List (Fin 32), M.Perm L ∧ M.Pairwise (fun i j => o i.val ≤ o j.val) ∧ Own w' base v (M.map (·.val)) ∧ w.grownBy w' v.ownBlock := by
  rcases hr.2 with ⟨rfl, h0⟩ | ⟨q, cp, cur, rfl, hb, hg, hn, hm, hs, ht⟩
  · have hL : L = [] := by rw [List.length_map] at h0; exact List.eq_nil_of_length_eq_zero h0
    subst hL
    have hcon := AnyF.slices_SortFunc_none (P := Tryz.prog) (ρ := Tryz.sortI_ren) { Tryz.sortI with } none 0 (.func (.func 41) #[] #[.pointer (some ⟨x, 0, none⟩)]) w
    change Calls Tryz.prog 40 _ _ _ at hcon
    refine hcon.mono ?_
    rintro e w' ⟨rfl, rfl⟩
    exact ⟨rfl, [], List.Perm.refl _, List.Pairwise.nil, hr, ⟨rfl, rfl, rfl, Nat.le_refl _, fun _ _ _ => rfl⟩⟩
  · exact sort_any o hr hx ho (by omega) (by omega) hll
/-- the box of the engine's pointer, and all else as it was. -/
structure RSt (w : World) (b : Nat) (W : World) : Prop where
  bx : Tx.Blk W w.heap.size #[.pointer (some ⟨b, 0, none⟩)] 24
  bel : Below w.heap.size w W
theorem RSt.below {w W W' : World} {b : Nat} (h : RSt w b W) (hb : Below W.heap.size W W') : RSt w b W' := ⟨h.bx.below hb, h.bel.trans (hb.mono h.bel.size)⟩
/-- a row of what the call is to tell, behind the slots. -/
structure ZSt (w : World) (b : Nat) (A : Option Addr) (cap : Nat) (L : List Nat) (B5 : Nat) (v5 : Value) (Y : List Xe) (W : World) : Prop where
  bx : Tx.Blk W w.heap.size #[.pointer (some ⟨b, 0, none⟩)] 24
  bel : Below w.heap.size w W
  io : Own W (w.heap.size + 1) (.slice A L.length cap) L
  gl : ∀ gq, A = some ⟨gq, 0, none⟩ → gq < B5
  own : OwnX W B5 v5 Y
  ye : ∀ y ∈ Y, EntAt (fun k => v5.ownBlock = some k ∨ k < B5) W y
  b1 : w.heap.size + 1 ≤ B5
  b2 : B5 ≤ W.heap.size
theorem ZSt.below {w W W' : World} {b cap B5 : Nat} {A : Option Addr} {L : List Nat} {v5 : Value} {Y : List Xe} (h : ZSt w b A cap L B5 v5 Y W) (hb : Below W.heap.size W W') : ZSt w b A cap L B5 v5 Y W' :=
  ⟨h.bx.below hb, h.bel.trans (hb.mono h.bel.size), h.io.below hb (Nat.le_refl _), h.gl, h.own.below hb (Nat.le_refl _), fun y hy => (h.ye y hy).kp (.of_below hb), h.b1, Nat.le_trans h.b2 hb.size⟩
structure YSt (w : World) (b : Nat) (A : Option Addr) (cap : Nat) (L : List Nat) (B5 : Nat) (W : World) : Prop where
  bx : Tx.Blk W w.heap.size #[.pointer (some ⟨b, 0, none⟩)] 24
  bel : Below w.heap.size w W
  io : Own W (w.heap.size + 1) (.slice A L.length cap) L
  gl : ∀ gq, A = some ⟨gq, 0, none⟩ → gq < B5
  b1 : w.heap.size + 1 ≤ B5
  b2 : B5 ≤ W.heap.size
theorem YSt.below {w W W' : World} {b cap B5 : Nat} {A : Option Addr} {L : List Nat} (h : YSt w b A cap L B5 W) (hb : Below W.heap.size W W') : YSt w b A cap L B5 W' :=
  ⟨h.bx.below hb, h.bel.trans (hb.mono h.bel.size), h.io.below hb (Nat.le_refl _), h.gl, h.b1, Nat.le_trans h.b2 hb.size⟩
structure RowY (B5 : Nat) (v5 : Value) (Y : List Xe) (W : World) : Prop where
  own : OwnX W B5 v5 Y
  ye : ∀ y ∈ Y, EntAt (fun k => v5.ownBlock = some k ∨ k < B5) W y
theorem RowY.below {W W' : World} {B5 : Nat} {v5 : Value} {Y : List Xe} (h : RowY B5 v5 Y W) (hb : Below W.heap.size W W') : RowY B5 v5 Y W' := ⟨h.own.below hb (Nat.le_refl _), fun y hy => (h.ye y hy).kp (.of_below hb)⟩
theorem ZSt.y {w W : World} {b cap B5 : Nat} {A : Option Addr} {L : List Nat} {v5 : Value} {Y : List Xe} (h : ZSt w b A cap L B5 v5 Y W) : YSt w b A cap L B5 W := ⟨h.bx, h.bel, h.io, h.gl, h.b1, h.b2⟩
theorem ZSt.r {w W : World} {b cap B5 : Nat} {A : Option Addr} {L : List Nat} {v5 : Value} {Y : List Xe} (h : ZSt w b A cap L B5 v5 Y W) : RowY B5 v5 Y W := ⟨h.own, h.ye⟩
theorem YSt.z {w W : World} {b cap B5 : Nat} {A : Option Addr} {L : List Nat} {v5 : Value} {Y : List Xe} (h : YSt w b A cap L B5 W) (hr : RowY B5 v5 Y W) : ZSt w b A cap L B5 v5 Y W := ⟨h.bx, h.bel, h.io, h.gl, hr.own, hr.ye, h.b1, h.b2⟩
theorem entAt_new {W W' : World} {base : Nat} {v : Value} {Y : List Xe} {e : Ent} {RA RB : Option Addr} {rc rd : Nat} (h : OwnX W base v Y) (hB : base ≤ W.heap.size) (h1 : Tx.SlAt W' RA rc e.rd) (f1 : Tx.Fr W.heap.size RA) (h2 : Tx.SlAt W' RB rd e.wr) (f2 : Tx.Fr W.heap.size RB) :
    EntAt (fun k => v.ownBlock = some k ∨ k < base) W' (e, .slice RA e.rd.length rc, .slice RB e.wr.length rd) :=
  have hk : ∀ k, (v.ownBlock = some k ∨ k < base) → k < W.heap.size := fun k hk => by
    rcases hk with hk | hk
    · exact (World.ownsRow.lt h k hk).2
    · omega
  ⟨⟨RA, rc, rfl, SlF.fresh h1 f1 hk⟩, ⟨RB, rd, rfl, SlF.fresh h2 f2 hk⟩⟩
theorem ZSt.snoc {w W W' : World} {b cap B5 q cp : Nat} {A : Option Addr} {L : List Nat} {v5 : Value} {Y : List Xe} {x : Xe} (h : ZSt w b A cap L B5 v5 Y W) (hx : EntAt (fun k => v5.ownBlock = some k ∨ k < B5) W x)
    (ho : W'.ownsRow B5 79 5 (.slice (some ⟨q, 0, none⟩) (Y.length + 1) cp) (Y.length + 1) (flatE Y ++ entC x)) (hg : W.grownBy W' v5.ownBlock) (hq : v5.ownBlock = some q ∨ q = W.heap.size) :
    ZSt w b A cap L B5 (.slice (some ⟨q, 0, none⟩) (Y.length + 1) cp) (Y ++ [x]) W' := by
  have hb : Below B5 W W' := grown_below h.own hg h.b2
  refine ⟨(hb.block _ (by have := h.b1; omega)).trans h.bx, h.bel.trans (hb.mono (by have := h.b1; omega)), ?_, h.gl, ?_, fun y hy => ?_, h.b1, Nat.le_trans h.b2 hg.size⟩
  · refine ⟨h.io.1, ?_⟩
    rcases h.io.2 with hn | ⟨g', c', cur, hv, hbase, hg', rest⟩
    · exact .inl hn
    · exact .inr ⟨g', c', cur, hv, hbase, (hb.block g' (h.gl g' (Value.slice.inj hv).1)).trans hg', rest⟩
  · unfold OwnX
    rw [List.length_append, flatE_append]
    have e : flatE [x] = entC x := by simp [flatE]
    rw [e]; exact ho
  · have hy' : EntAt (fun k => v5.ownBlock = some k ∨ k < B5) W y := by
      rcases List.mem_append.1 hy with hy | hy
      · exact h.ye y hy
      · rw [List.mem_singleton.1 hy]; exact hx
    have hf : EntAt (fun k => (Value.slice (some ⟨q, 0, none⟩) (Y.length + 1) cp).ownBlock = some k ∨ k < B5) W y := hy'.foot (fun k hk e => by
      rcases e with e | e
      · have e : q = k := Option.some.inj e
        subst e
        rcases hq with hq | hq
        · exact .inl hq
        · omega
      · exact .inr e)
    exact EntAt.foot (F := fun k => v5.ownBlock = some k ∨ k = q ∨ k < B5) (by
      refine EntAt.kp ?_ ((Kp.refl _ W).grown hg (fun k e => .inl (.inl e)))
      obtain ⟨⟨A, c, e1, s1⟩, ⟨B, d, e2, s2⟩⟩ := hy'
      obtain ⟨⟨A', c', e1', s1'⟩, ⟨B', d', e2', s2'⟩⟩ := hf
      rw [e1] at e1'; rw [e2] at e2'
      obtain ⟨a1, _, a2⟩ := Value.slice.inj e1'
      obtain ⟨b1, _, b2⟩ := Value.slice.inj e2'
      subst a1; subst a2; subst b1; subst b2
      exact ⟨⟨A, c, e1, s1.sl, fun hl ad ea hx => by
        rcases hx with hx | hx | hx
        · exact s1.off hl ad ea (.inl hx)
        · exact s1'.off hl ad ea (.inl (by rw [hx]; rfl))
        · exact s1.off hl ad ea (.inr hx)⟩, ⟨B, d, e2, s2.sl, fun hl ad ea hx => by
        rcases hx with hx | hx | hx
        · exact s2.off hl ad ea (.inl hx)
        · exact s2'.off hl ad ea (.inl (by rw [hx]; rfl))
        · exact s2.off hl ad ea (.inr hx)⟩⟩) (fun k _ e => by
      rcases e with e | e
      · have e : q = k := Option.some.inj e
        exact .inr (.inl e.symm)
      · exact .inr (.inr e))
def RestRel (w : World) (b : Nat) (A : Option Addr) (cap : Nat) (g : Eng) (B5 : Nat) (u4 i : Value) (wr : World) : Prop :=
  ∃ (k : Nat) (Y : List Xe), k ≤ (slots g).length ∧ i = .int .i64 k ∧ Y.map (·.1) = ((slots g).take k).map (entry g) ∧ ZSt w b A cap (slots g) B5 u4 Y wr
set_option maxHeartbeats 8000000 in
set_option maxRecDepth 100000 in
theorem rest_any {F : Nat → Prop} {w : World} {b N : Nat} {g : Eng} {K : Int} (h : EngAt F w b N g) (hi : Inv K g) (hK : K ≤ 100000) (hT : TabAt w) :
    Calls Tryz.prog 11 #[.pointer (some ⟨b, 0, none⟩)] w fun e w' => ∃ v, e = .returned v ∧ Told w' w.heap.size v (rest g) ∧ Below w.heap.size w w' := by
  obtain ⟨sA, sc, mb, lv, T, X, h⟩ := h
  have HR := Lib.hid (show RSt w b (w.alloc (.cells #[.pointer (some ⟨b, 0, none⟩)] 24)) from ⟨Tx.Blk.new _ _ _, Tx.below_new _ _⟩)
  have H := Lib.hid h
  have HI := Lib.hid hi
  have HF := Lib.hid (hi.fit hK)
  have HT := Lib.hid hT
  have HTK := Lib.hid (show tkB g < 18446744073709551616 by have := hi.tkB32; omega)
  have HC0 := Lib.hid (h.below HR.out.bel).raw.size_
  have HBW := Lib.hid (show b < w.heap.size from h.raw.lt)
  have HSN := Lib.hid (show (slots g).length ≤ 32 from Od.standing_len _ _)
  clear h hi hT
  go_enter Tryz.func11, Tryz.ntmps11
  go_wp2_with fail
  refine (made_yes b g.p.size _ HC0.out HF.out.ps.size.1).mono ?_
  rintro e w0 ⟨rfl, rfl⟩
  go_wp2
  refine wp_region_noPanic ?_
  refine region_z 13 (RSt w b) 12 1000 rfl (by kernel_rfl) (HR.out.below (below_drew _)) (fun hHeld => ?_)
  refine take_z 0 10 (.pointer (some ⟨b, 0, none⟩)) rfl rfl (by kernel_rfl) (by kernel_rfl) (by kernel_rfl) (by kernel_rfl) (fun _ _ _ h => h) (Or.inl ⟨by rfl, by intro W hW; have hc := hW.bx.cell 0; clear hW; go_simp⟩) hHeld ?_
  simp only [put_laws]
  refine take_z 1 11 (.pointer (some ⟨b, 0, none⟩)) rfl rfl (by kernel_rfl) (by kernel_rfl) (by kernel_rfl) (by kernel_rfl) (fun _ _ _ h => h) (Or.inl ⟨by rfl, by intro W hW; clear hW; go_simp⟩) hHeld ?_
  simp only [put_laws]
  refine take_z 2 12 (.pointer (some ⟨b, 0, none⟩)) rfl rfl (by kernel_rfl) (by kernel_rfl) (by kernel_rfl) (by kernel_rfl) (fun _ _ _ h => h) (Or.inl ⟨by rfl, by intro W hW; clear hW; go_simp⟩) hHeld ?_
  simp only [put_laws]
  refine take_z 3 13 (.pointer (some ⟨b, 65, none⟩)) rfl rfl (by kernel_rfl) (by kernel_rfl) (by kernel_rfl) (by kernel_rfl) (fun _ _ _ h => h) (Or.inl ⟨by rfl, by intro W hW; clear hW; go_simp⟩) hHeld ?_
  simp only [put_laws]
  refine take_z 4 14 (.int .u64 (g.p.live : Nat)) rfl rfl (by kernel_rfl) (by kernel_rfl) (by kernel_rfl) (by kernel_rfl) (fun _ _ _ h => h) (Or.inl ⟨by rfl, by intro W hW; have hc := (H.out.below hW.bel).raw.live_; clear hW; go_simp⟩) hHeld ?_
  simp only [put_laws]
  refine take_z 5 15 (.pointer (some ⟨b, 0, none⟩)) rfl rfl (by kernel_rfl) (by kernel_rfl) (by kernel_rfl) (by kernel_rfl) (fun _ _ _ h => h) (Or.inl ⟨by rfl, by intro W hW; have hc := hW.bx.cell 0; clear hW; go_simp⟩) hHeld ?_
  simp only [put_laws]
  refine take_z 6 16 (.pointer (some ⟨b, 0, none⟩)) rfl rfl (by kernel_rfl) (by kernel_rfl) (by kernel_rfl) (by kernel_rfl) (fun _ _ _ h => h) (Or.inl ⟨by rfl, by intro W hW; clear hW; go_simp⟩) hHeld ?_
  simp only [put_laws]
  refine take_z 7 17 (.pointer (some ⟨b, 0, none⟩)) rfl rfl (by kernel_rfl) (by kernel_rfl) (by kernel_rfl) (by kernel_rfl) (fun _ _ _ h => h) (Or.inl ⟨by rfl, by intro W hW; clear hW; go_simp⟩) hHeld ?_
  simp only [put_laws]
  refine take_z 8 18 (.pointer (some ⟨b, 66, none⟩)) rfl rfl (by kernel_rfl) (by kernel_rfl) (by kernel_rfl) (by kernel_rfl) (fun _ _ _ h => h) (Or.inl ⟨by rfl, by intro W hW; clear hW; go_simp⟩) hHeld ?_
  simp only [put_laws]
  refine take_z 9 19 (.int .u64 (g.p.done : Nat)) rfl rfl (by kernel_rfl) (by kernel_rfl) (by kernel_rfl) (by kernel_rfl) (fun _ _ _ h => h) (Or.inl ⟨by rfl, by intro W hW; have hc := (H.out.below hW.bel).raw.done_; clear hW; go_simp⟩) hHeld ?_
  simp only [put_laws]
  refine take_z 10 20 (.int .u64 ((g.p.live ||| g.p.done : Nat) : Int)) rfl rfl (by kernel_rfl) (by kernel_rfl) (by kernel_rfl) (by kernel_rfl) (fun _ _ _ h => h) (Or.inl ⟨by rfl, by intro W hW; have hc := bits_or_u64_nat g.p.live g.p.done HF.out.ps.live64 HF.out.ps.done64; clear hW; go_simp⟩) hHeld ?_
  simp only [put_laws]
  refine anyZ_ready (rs := [11]) (by kernel_rfl) (by simp) ?_
  refine AllZ.cons rfl (fun K hK => ?_) AllZ.nil
  go_simp
  refine (items_own (tkB g) _ HTK.out (HT.out.below hHeld.bel HT.out.lt)).mono ?_
  rintro e w3 ⟨v, rfl, ho, hb⟩
  try go_simp
  have hPrev := hHeld
  have hHeld := hHeld.below hb
  have ho := ho.mono (show w.heap.size + 1 ≤ _ from hPrev.bx.lt)
  clear hPrev
  refine hK.out _ _ hHeld (fun hHeld => ?_)
  clear hK K
  refine anyZ_ready (rs := [12]) (by kernel_rfl) (by simp) ?_
  refine AllZ.last rfl rfl (fun K hK => ?_)
  go_simp
  refine hK.out _ _ ?_
  clear hK K
  refine anyZ_done (by kernel_rfl) ?_ _
  refine NoPanic.normal ?_
  obtain ⟨L, hL⟩ := fin_list (Sm.items (tkB g)) (fun i hm => HF.out.ps.tk32 ((tkB_test g i).1 (Sm.items_mem.1 hm).2))
  rw [← hL] at ho
  have HL := Lib.hid hL
  have HLL := Lib.hid (show L.length ≤ 64 by have h1 := congrArg List.length hL; rw [List.length_map] at h1; have h2 : (Sm.items (tkB g)).length ≤ 64 := Sm.items_len _; omega)
  have HO := Lib.hid ho
  have HR3 := Lib.hid hHeld
  have HCR := Lib.hid (show ∀ i, i < 32 → w3.cell? ⟨b, 33 + i, none⟩ = some (.int .i64 (g.p.o i)) from fun i hi => (H.out.below hHeld.bel).raw.o_ i hi)
  have hlx := HR3.out.bx.lt
  clear ho hHeld hL hb
  go_wp2_with fail
  refine (sort_all g.p.o HO.out (HR3.out.bx.cell 0) HCR.out (Nat.lt_succ_self _) (by have := HBW.out; omega) HLL.out).mono ?_
  rintro e w5 ⟨rfl, M, hp, hso, ho5, hg5⟩
  have hM := sorted_slots HF.out.ps HL.out hp hso
  rw [hM] at ho5
  have HB35 := Lib.hid ((Below.refl (w.heap.size + 1) w3).grown hg5 hlx (fun k hk => (World.ownsRow.lt HO.out k hk).1))
  have HB5 := Lib.hid (HR3.out.bel.trans (HB35.out.mono (by omega)))
  have HX5 := Lib.hid (show Tx.Blk w5 w.heap.size #[.pointer (some ⟨b, 0, none⟩)] 24 from (HB35.out.block _ (by omega)).trans HR3.out.bx)
  have hlen : (slots g).length = L.length := by rw [← hM, List.length_map, hp.length_eq]
  obtain ⟨A, c, rfl, _, _⟩ := ho5.shape
  have HO5 := Lib.hid ho5
  have HS5 := Lib.hid (show w.heap.size + 1 ≤ w5.heap.size from Nat.le_trans hlx HB35.out.size)
  obtain ⟨i0, hi0, hz0, hz1, hz2⟩ := info_parts ent_info
  have hmk := fun W => run_make (P := Tryz.prog) W 37 79 i0 _ Tryz.underlying37 hi0 hz0 .i64 .i64 0 ((slots g).length : Nat) (by omega) (by omega) (by rw [hz2]; have := HSN.out; omega) (by omega)
  simp only [Int.toNat_natCast, hz1, Value.cells] at hmk
  clear hi0 hz0 hz1 hz2 hp hso ho5 hg5 hM hlen HO HR3 HCR HL HLL HB35
  go_wp2
  have HZ5 := Lib.hid (show ZSt w b A c (slots g) w5.heap.size (.slice (some ⟨w5.heap.size, 0, none⟩) 0 (slots g).length) [] (w5.alloc (.cells (madeCells #[.int .i64 0, .bool false, .bool false, .slice none 0 0, .slice none 0 0] ((slots g).length * 5)) 79)) from
    ⟨HX5.out.alloc _, HB5.out.alloc HB5.out.size _, HO5.out.below (Tx.below_new _ _) (Nat.le_refl _), fun gq e => by have h5 := HO5.out; rw [e] at h5; exact h5.block.2, World.ownsRow_made w5 _ _ (Nat.le_refl _) (by have := HSN.out; unfold maxLen; omega) (by simp [size_madeCells]), (fun y hy => absurd hy List.not_mem_nil), HS5.out, by simp⟩)
  have hn : ((slots g).length : Int) ≤ 9223372036854775807 := by have := HSN.out; omega
  clear hmk HX5 HO5
  go_loopw [4, 30] (RestRel w b A c g w5.heap.size) (fun _ i _ => (slots g).length - (intOf i).toNat)
  case atStart => exact ⟨0, [], Nat.zero_le _, rfl, rfl, HZ5.out⟩
  case round =>
    obtain ⟨k, Y, hk, rfl, hY, hz⟩ := hrel
    have HZ := Lib.hid hz
    have HY := Lib.hid hY
    have HYL := Lib.hid (show Y.length = k by have := congrArg List.length hY; rw [List.length_map, List.length_map, List.length_take] at this; omega)
    clear hz hY
    by_cases hlt : k < (slots g).length
    · obtain ⟨gq, rfl, hc⟩ := HZ.out.io.at_ hlt
      have hik := List.getElem?_eq_getElem hlt
      have hmem := List.getElem_mem hlt
      generalize (slots g)[k] = i at hc hik hmem
      have HIK := Lib.hid hik
      have HLT := Lib.hid (show Y.length ≤ 32 by have h1 := HYL.out; have h2 := HSN.out; omega)
      have HTKI := Lib.hid (((slots_lin HF.out.ps).mem i).1 hmem)
      have HI32 := Lib.hid (HF.out.ps.tk32 HTKI.out)
      have hi32 := HI32.out
      have HIDB := Lib.hid (show St.i64p (g.p.ids i) by have h1 := HF.out.ps.ids i HI32.out; have h2 := HF.out.cnt; exact ⟨by omega, by omega⟩)
      clear hik hmem
      go_wp2
      have hO := HZ.out.r.below (below_drew _)
      refine wp_region_noPanic ?_
      refine region_z 13 (YSt w b (some ⟨gq, 0, none⟩) c (slots g) w5.heap.size) 12 1000 rfl (by kernel_rfl) (HZ.out.y.below (below_drew _)) (fun hHeld => ?_)
      refine take_z 0 34 (u4) rfl rfl (by kernel_rfl) (by kernel_rfl) (by kernel_rfl) (by kernel_rfl) (fun _ _ _ h => h) (Or.inl ⟨by rfl, by intro W hW; clear hW; go_simp⟩) hHeld ?_
      simp only [put_laws]
      refine take_z 1 35 (.pointer (some ⟨b, 0, none⟩)) rfl rfl (by kernel_rfl) (by kernel_rfl) (by kernel_rfl) (by kernel_rfl) (fun _ _ _ h => h) (Or.inl ⟨by rfl, by intro W hW; have hc := hW.bx.cell 0; clear hW; go_simp⟩) hHeld ?_
      simp only [put_laws]
      refine take_z 2 36 (.pointer (some ⟨b, 0, none⟩)) rfl rfl (by kernel_rfl) (by kernel_rfl) (by kernel_rfl) (by kernel_rfl) (fun _ _ _ h => h) (Or.inl ⟨by rfl, by intro W hW; have hc := hW.bx.cell 0; clear hW; go_simp⟩) hHeld ?_
      simp only [put_laws]
      refine take_z 3 37 (.int .i64 (i : Nat)) rfl rfl (by kernel_rfl) (by kernel_rfl) (by kernel_rfl) (by kernel_rfl) (fun _ _ _ h => h) (Or.inl ⟨by rfl, by intro W hW; clear hW; go_simp⟩) hHeld ?_
      simp only [put_laws]
      refine take_z 4 38 (.pointer (some ⟨b, 0, none⟩)) rfl rfl (by kernel_rfl) (by kernel_rfl) (by kernel_rfl) (by kernel_rfl) (fun _ _ _ h => h) (Or.inl ⟨by rfl, by intro W hW; clear hW; go_simp⟩) hHeld ?_
      simp only [put_laws]
      refine take_z 5 39 (.pointer (some ⟨b, 0, none⟩)) rfl rfl (by kernel_rfl) (by kernel_rfl) (by kernel_rfl) (by kernel_rfl) (fun _ _ _ h => h) (Or.inl ⟨by rfl, by intro W hW; clear hW; go_simp⟩) hHeld ?_
      simp only [put_laws]
      refine take_z 6 40 (.pointer (some ⟨b, 67, none⟩)) rfl rfl (by kernel_rfl) (by kernel_rfl) (by kernel_rfl) (by kernel_rfl) (fun _ _ _ h => h) (Or.inl ⟨by rfl, by intro W hW; clear hW; go_simp⟩) hHeld ?_
      simp only [put_laws]
      refine take_z 7 41 (.pointer (some ⟨b, 67 + i, none⟩)) rfl rfl (by kernel_rfl) (by kernel_rfl) (by kernel_rfl) (by kernel_rfl) (fun _ _ _ h => h) (Or.inl ⟨by rfl, by intro W hW; have hc : ¬ (32 : Int) ≤ ((i : Nat) : Int) := (by have := HI32.out; omega); clear hW; go_simp⟩) hHeld ?_
      simp only [put_laws]
      refine take_z 8 42 (.int .i64 (g.p.ids i)) rfl rfl (by kernel_rfl) (by kernel_rfl) (by kernel_rfl) (by kernel_rfl) (fun _ _ _ h => h) (Or.inl ⟨by rfl, by intro W hW; have hc := (H.out.below hW.bel).raw.id_ i HI32.out; clear hW; go_simp⟩) hHeld ?_
      simp only [put_laws]
      refine anyZ_ready (rs := [9]) (by kernel_rfl) (by simp) ?_
      refine AllZ.cons rfl (fun K hK => ?_) AllZ.nil
      go_simp
      refine (entry_any (H.out.below hHeld.bel) HF.out.ps HF.out.tl HTKI.out HIDB.out).mono ?_
      rintro e we ⟨RA, rc, RB, rd, rfl, he1, hf1, he2, hf2, hb⟩
      try go_simp
      have hPrev := hHeld
      have hHeld := hHeld.below hb
      have hE := entAt_new (e := entry g i) hO.own hPrev.b2 he1 hf1 he2 hf2
      clear he1 hf1 he2 hf2
      have hO := hO.below hb
      clear hPrev
      refine hK.out _ _ hHeld (fun hHeld => ?_)
      clear hK K
      refine anyZ_ready (rs := [10]) (by kernel_rfl) (by simp) ?_
      refine AllZ.cons rfl (fun K hK => ?_) AllZ.nil
      go_simp
      have hN : Tx.Blk ((we.alloc (.cells #[.int .i64 (entry g i).id, .bool (entry g i).com, .bool (entry g i).ovr, .slice RA (entry g i).rd.length rc, .slice RB (entry g i).wr.length rd] 79))) (we.heap.size) #[.int .i64 (entry g i).id, .bool (entry g i).com, .bool (entry g i).ovr, .slice RA (entry g i).rd.length rc, .slice RB (entry g i).wr.length rd] 79 := Tx.Blk.new (we) #[.int .i64 (entry g i).id, .bool (entry g i).com, .bool (entry g i).ovr, .slice RA (entry g i).rd.length rc, .slice RB (entry g i).wr.length rd] 79
      have hPrev := hHeld
      have hHeld := hHeld.below (show Below _ _ ((we.alloc (.cells #[.int .i64 (entry g i).id, .bool (entry g i).com, .bool (entry g i).ovr, .slice RA (entry g i).rd.length rc, .slice RB (entry g i).wr.length rd] 79))) from Tx.below_new (we) (.cells #[.int .i64 (entry g i).id, .bool (entry g i).com, .bool (entry g i).ovr, .slice RA (entry g i).rd.length rc, .slice RB (entry g i).wr.length rd] 79))
      have hE := EntAt.kp hE (Kp.of_below (Tx.below_new _ (.cells #[.int .i64 (entry g i).id, .bool (entry g i).com, .bool (entry g i).ovr, .slice RA (entry g i).rd.length rc, .slice RB (entry g i).wr.length rd] 79)))
      have hO := hO.below (show Below _ _ ((we.alloc (.cells #[.int .i64 (entry g i).id, .bool (entry g i).com, .bool (entry g i).ovr, .slice RA (entry g i).rd.length rc, .slice RB (entry g i).wr.length rd] 79))) from Tx.below_new (we) (.cells #[.int .i64 (entry g i).id, .bool (entry g i).com, .bool (entry g i).ovr, .slice RA (entry g i).rd.length rc, .slice RB (entry g i).wr.length rd] 79))
      generalize (we.alloc (.cells #[.int .i64 (entry g i).id, .bool (entry g i).com, .bool (entry g i).ovr, .slice RA (entry g i).rd.length rc, .slice RB (entry g i).wr.length rd] 79)) = wa at *
      clear hPrev
      refine hK.out _ _ hHeld (fun hHeld => ?_)
      clear hK K
      refine anyZ_ready (rs := [11]) (by kernel_rfl) (by simp) ?_
      refine AllZ.cons rfl (fun K hK => ?_) AllZ.nil
      obtain ⟨i0, hi0, hz0, hz1, hz2⟩ := info_parts ent_info
      refine step_append_lies _ rfl (.tmp 34) (.tmp 44) 37 rfl w5.heap.size 79 i0 _ 5 64 Tryz.underlying37 hi0 hz0 hz1 hz2 rfl (by decide) u4 Y.length (flatE Y) rfl hO.own ⟨we.heap.size, 0, none⟩ 1 1 (entC (entry g i, .slice RA (entry g i).rd.length rc, .slice RB (entry g i).wr.length rd)) rfl rfl (World.news_of_block hN) (flatE_one1 hE) (by decide) (by have := HLT.out; unfold maxLen; omega) (by have := HLT.out; omega) hHeld.b2 _ rfl ?_
      intro q cp wg hog hgg hq hqlt
      have hZ2 := ZSt.snoc (hHeld.z hO) hE hog hgg hq
      have hHeld := hZ2.y
      clear hog hgg hq hqlt
      refine hK.out _ _ hHeld (fun hHeld => ?_)
      clear hK K
      refine anyZ_ready (rs := [12]) (by kernel_rfl) (by simp) ?_
      refine AllZ.last rfl rfl (fun K hK => ?_)
      go_simp
      refine hK.out _ _ ?_
      clear hK K
      refine anyZ_done (by kernel_rfl) ?_ _
      refine NoPanic.normal ?_
      have HZ2 := Lib.hid hZ2
      clear hHeld hE hO hZ2 hN
      go_wp2
      refine ⟨⟨k + 1, Y ++ [(entry g i, .slice RA (entry g i).rd.length rc, .slice RB (entry g i).wr.length rd)], by omega, by go_num, ?_, ?_⟩, by simp [intOf]; omega⟩
      · rw [St.take_step HIK.out, List.map_append, List.map_append, HY.out]; rfl
      · exact HZ2.out
    · obtain rfl : k = (slots g).length := by omega
      go_wp2
      go_ret
      have hm := HY.out
      rw [List.take_length] at hm
      exact ⟨_, rfl, ⟨⟨Y, OwnX.mono HZ.out.own (by have := HZ.out.b1; omega), hm, fun y hy => (HZ.out.ye y hy).foot (fun k _ e => by
        rcases e with e | e
        · exact .inl e
        · exact .inr (by have := HZ.out.b1; omega))⟩⟩, HZ.out.bel⟩
end Go.Proofs.YtfdfiiocccafkaaGreatDoor.En
