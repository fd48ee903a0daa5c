/-
  Pools as plain mathematics: what each call makes of a pool; what is sound stays so. Nothing of the program.
-/
import Derived.Test.YtakoceablbgchaaDoorPoolBase
namespace Go.Proofs.YtakoceablbgchaaDoor.Po
open Mm Od
/-- is a slot below the size, and free? -/
def freeAt (p : Pl) (s : Nat) : Bool := decide ((s : Int) < p.size) && !(p.live ||| p.done).testBit s
def ff (p : Pl) : Option Nat := (List.range 32).find? (freeAt p)
theorem ff_some {p : Pl} {s : Nat} (hs : s < 32) (h : freeAt p s = true) (hl : ∀ j, j < s → freeAt p j = false) : ff p = some s := by
  unfold ff
  rw [List.find?_range_eq_some]
  exact ⟨h, by simpa using hs, fun j hj => by rw [hl j hj]; rfl⟩
theorem ff_spec {p : Pl} {s : Nat} (h : ff p = some s) : s < 32 ∧ freeAt p s = true ∧ ∀ j, j < s → freeAt p j = false := by
  unfold ff at h
  rw [List.find?_range_eq_some] at h
  exact ⟨by simpa using h.2.1, h.1, fun j hj => by have := h.2.2 j hj; simpa using this⟩
theorem ff_none {p : Pl} (h : ∀ j, j < 32 → freeAt p j = false) : ff p = none := by
  unfold ff
  rw [List.find?_eq_none]
  intro x hx
  rw [h x (by simpa using hx)]; simp
theorem ff_full {p : Pl} (h : ff p = none) (j : Nat) (hj : j < 32) : freeAt p j = false := by
  unfold ff at h
  rw [List.find?_eq_none] at h
  have := h j (by simpa using hj)
  simpa using this
noncomputable def insStep (s : Nat) (x : Gr × O) (k : Nat) : Gr × O := ((insert x.1 x.2 (k : Nat) (s : Nat)).1, (insert x.1 x.2 (k : Nat) (s : Nat)).2.1)
noncomputable def insAll (s : Nat) (l : List Nat) (x : Gr × O) : Gr × O := l.foldl (insStep s) x
theorem insAll_snoc (s : Nat) (l : List Nat) (k : Nat) (x : Gr × O) : insAll s (l ++ [k]) x = insStep s (insAll s l x) k := by simp [insAll]
/-- the pool with one more in the slot s. -/
def opened (p : Pl) (s : Nat) : Pl := { p with live := Sm.add p.live (s : Nat), count := p.count + 1, ids := upd p.ids s (p.count + 1) }
def over (p : Pl) (x : Gr × O) : Pl := { p with m := x.1, o := x.2 }
noncomputable def begun (p : Pl) (s : Nat) : Pl := over (opened p s) (insAll s (Sm.items p.done) (p.m, p.o))
noncomputable def begin (p : Pl) : Pl × Int × Int :=
  match ff p with
  | some s => (begun p s, (s : Int), 0)
  | none => (p, 0, 4)
def taken (p : Pl) (s : Int) : Bool := Sm.has (p.live ||| p.done) s
noncomputable def edge (p : Pl) (a b : Int) : Pl × Int :=
  if a = b then (p, 2) else if taken p a = false ∨ taken p b = false then (p, 3)
  else if (insert p.m p.o a b).2.2 = true then (over p ((insert p.m p.o a b).1, (insert p.m p.o a b).2.1), 0) else (p, 5)
def ended (p : Pl) (s : Int) : Pl := { p with live := Sm.less p.live s, done := Sm.add p.done s }
def endP (p : Pl) (s : Int) : Pl × Int := if Sm.has p.live s = true then (ended p s, 0) else (p, 3)
def goable (p : Pl) (s : Nat) : Bool := p.done.testBit s && decide (ins p.m s = 0)
def better (p : Pl) (k : Nat) : Option Nat → Bool
  | none => true
  | some f => decide (p.ids k < p.ids f)
def bestTo (p : Pl) : Nat → Option Nat
  | 0 => none
  | k + 1 => if (goable p k && better p k (bestTo p k)) = true then some k else bestTo p k
def next (p : Pl) : Option Nat := bestTo p 32
def going (p : Pl) (s : Nat) : Pl := { p with m := cut p.m s, done := Sm.less p.done (s : Nat), ids := upd p.ids s 0 }
def coll : Nat → Pl → Pl × List Int
  | 0, p => (p, [])
  | n + 1, p => match next p with
    | none => (p, [])
    | some s => ((coll n (going p s)).1, p.ids s :: (coll n (going p s)).2)
def collect (p : Pl) : Pl × List Int := coll (Sm.count p.done) p
theorem bestTo_spec {p : Pl} : ∀ {k s : Nat}, bestTo p k = some s → s < k ∧ goable p s = true
  | 0, s, h => by simp [bestTo] at h
  | k + 1, s, h => by
    unfold bestTo at h
    split at h
    · rename_i hc
      injection h with h
      subst h
      simp at hc
      exact ⟨by omega, hc.1⟩
    · have := bestTo_spec h
      exact ⟨by omega, this.2⟩
theorem bestTo_none {p : Pl} : ∀ {k : Nat}, bestTo p k = none → ∀ j, j < k → goable p j = false
  | 0, _, j, hj => by omega
  | k + 1, h, j, hj => by
    unfold bestTo at h
    split at h
    · cases h
    · rename_i hc
      rcases Nat.lt_or_ge j k with h1 | h1
      · exact bestTo_none h j h1
      · obtain rfl : j = k := by omega
        rw [h] at hc
        simpa [better] using hc
theorem next_spec {p : Pl} {s : Nat} (h : next p = some s) : s < 32 ∧ p.done.testBit s = true ∧ ∀ i, ¬ E p.m i s := by
  obtain ⟨h1, h2⟩ := bestTo_spec h
  simp [goable] at h2
  refine ⟨h1, h2.1, fun i hi => ?_⟩
  have := (ins_test p.m s i).2 hi
  rw [h2.2] at this
  simp at this
theorem next_none {p : Pl} (h : next p = none) {s : Nat} (hs : s < 32) (hd : p.done.testBit s = true) : ∃ i, E p.m i s := by
  have := bestTo_none h s hs
  simp [goable, hd] at this
  have hne : ∃ j, (ins p.m s).testBit j = true := Nat.exists_testBit_of_ne_zero this
  obtain ⟨j, hj⟩ := hne
  exact ⟨j, (ins_test p.m s j).1 hj⟩
theorem items_nodup (x : Nat) : (Sm.items x).Nodup := (Sm.items_rise x).imp (fun h => Nat.ne_of_lt h)
theorem items_less {x s : Nat} (hx : x < 18446744073709551616) (hs : s < 64) : Sm.items (Sm.less x (s : Nat)) = (Sm.items x).filter (· != s) := by
  unfold Sm.items
  rw [List.filter_filter]
  apply List.filter_congr
  intro i _
  rw [Sm.less_test _ _ hx, Bool.and_comm]
  congr 1
  rw [Bool.eq_iff_iff]
  simp
  omega
theorem count_less {x s : Nat} (hx : x < 18446744073709551616) (hs : s < 64) (h : x.testBit s = true) : Sm.count (Sm.less x (s : Nat)) + 1 = Sm.count x := by
  have hm : s ∈ Sm.items x := Sm.items_mem.2 ⟨hs, h⟩
  unfold Sm.count
  rw [items_less hx hs, ← (items_nodup x).erase_eq_filter, List.length_erase_of_mem hm]
  have := List.length_pos_of_mem hm
  omega
theorem collect_none {p : Pl} (h : next p = none) : collect p = (p, []) := by
  unfold collect
  cases Sm.count p.done with
  | zero => rfl
  | succ n => simp [coll, h]
theorem collect_some {p : Pl} (hd : p.done < 18446744073709551616) {s : Nat} (h : next p = some s) : collect p = ((collect (going p s)).1, p.ids s :: (collect (going p s)).2) := by
  have hs := next_spec h
  have := count_less hd (by omega) hs.2.1
  unfold collect
  rw [← this]
  simp only [coll, h]
  rfl
/-- to show something of what goes. -/
theorem coll_ind (P : Pl → Pl × List Int → Prop) (h0 : ∀ p, next p = none → P p (p, [])) (h1 : ∀ p s r, p.done < 18446744073709551616 → next p = some s → P (going p s) r → P p (r.1, p.ids s :: r.2)) :
    ∀ p, p.done < 18446744073709551616 → P p (collect p) := by
  have key : ∀ n p, Sm.count p.done = n → p.done < 18446744073709551616 → P p (collect p) := by
    intro n
    induction n using Nat.strongRecOn with
    | ind n ih =>
      intro p hn hd
      cases hx : next p with
      | none => rw [collect_none hx]; exact h0 p hx
      | some s =>
        rw [collect_some hd hx]
        have hs := next_spec hx
        have := count_less hd (by omega) hs.2.1
        exact h1 p s _ hd hx (ih (Sm.count (going p s).done) (by show Sm.count (Sm.less p.done (s : Nat)) < n; omega) _ rfl (Sm.less_lt _ hd))
  exact fun p hd => key _ p rfl hd
/- what insert makes -/
theorem ins_low {m : Gr} {o : O} (a b : Int) (h : ∀ i, i < 32 → m i < 4294967296) : ∀ i, i < 32 → (insert m o a b).1 i < 4294967296 := by
  have hp : ∀ x y : Nat, x < 32 → y < 32 → ∀ i, i < 32 → put m x y i < 4294967296 := by
    intro x y hx hy i hi
    unfold put
    split
    · refine lt32 fun j hj => ?_
      rw [Sm.add_test, Bool.or_eq_true] at hj
      rcases hj with hj | hj
      · exact test32 (h i hi) hj
      · simp at hj; omega
    · exact h i hi
  exact insert_cases m o a b (fun r => ∀ i, i < 32 → r.1 i < 4294967296) (fun _ => h) (fun x y _ _ hx hy _ _ _ => hp x y hx hy) (fun _ _ _ _ _ _ _ _ _ _ => h) (fun x y _ _ hx hy _ _ _ _ => hp x y hx hy)
theorem ins_E {m : Gr} {o : O} {a b : Int} {i j : Nat} (he : E (insert m o a b).1 i j) : E m i j ∨ ((i : Int) = a ∧ (j : Int) = b) := by
  revert he
  refine insert_cases m o a b (fun r => E r.1 i j → E m i j ∨ ((i : Int) = a ∧ (j : Int) = b)) (fun _ h => .inl h) ?_ (fun _ _ _ _ _ _ _ _ _ _ h => .inl h) ?_
  · intro x y hx hy hx32 hy32 _ _ _ h
    rcases (put_E hx32 hy32 i j).1 h with h | ⟨rfl, rfl⟩
    · exact .inl h
    · exact .inr ⟨hx.symm, hy.symm⟩
  · intro x y hx hy hx32 hy32 _ _ _ _ h
    rcases (put_E hx32 hy32 i j).1 h with h | ⟨rfl, rfl⟩
    · exact .inl h
    · exact .inr ⟨hx.symm, hy.symm⟩
theorem ins_old {m : Gr} {o : O} {a b : Int} {i j : Nat} (he : E m i j) : E (insert m o a b).1 i j :=
  insert_cases m o a b (fun r => E r.1 i j) (fun _ => he) (fun _ _ _ _ hx hy _ _ _ => (put_E hx hy i j).2 (.inl he)) (fun _ _ _ _ _ _ _ _ _ _ => he) (fun _ _ _ _ hx hy _ _ _ _ => (put_E hx hy i j).2 (.inl he))
/-- an edge that may be is there, and all is sorted; or it closes a way round. -/
theorem ins_may {m : Mm.Gr} {o : Od.O} {x y : Nat} (hx : x < 32) (hy : y < 32) (hxy : x ≠ y) (hs : Od.Sorted m o) :
    (∃ q, Od.insert m o (x : Nat) (y : Nat) = (Mm.put m x y, q, true) ∧ Od.Sorted (Mm.put m x y) q ∧ Mm.free (Mm.put m x y) = true) ∨ (Od.insert m o (x : Nat) (y : Nat) = (m, o, false) ∧ Mm.free (Mm.put m x y) = false) := by
  by_cases hlt : o x < o y
  · have h := Od.put_sorted hs hx hy hlt
    exact .inl ⟨o, Od.insert_up hx hy hxy hs hlt, h, Od.sorted_free h⟩
  · cases hf : (Od.fore m o x y).testBit x
    · have h := Od.moved_sorted hs hx hy (by omega) hf
      exact .inl ⟨_, Od.insert_down hx hy hxy hs (by omega) hf, h, Od.sorted_free h⟩
    · exact .inr ⟨Od.insert_round hx hy hxy hs (by omega) hf, Od.fore_closes hs hx hy hxy hf⟩
/-- from a node that nothing leaves no edge to it is refused. -/
theorem ins_leaf {m : Gr} {o : O} {k s : Nat} (hk : k < 32) (hs32 : s < 32) (hne : k ≠ s) (hs : Sorted m o) (hl : ∀ j, ¬ E m s j) : E (insert m o (k : Nat) (s : Nat)).1 k s := by
  rcases ins_may hk hs32 hne hs with ⟨q, e, _, _⟩ | ⟨_, hf⟩
  · rw [e]; exact (put_E hk hs32 k s).2 (.inr ⟨rfl, rfl⟩)
  · rw [put_closes hk hs32 hne (sorted_free hs), Sm.has_nat _ (ways_lt _ _)] at hf
    simp at hf
    have hw := ((ways_test _ _ _).1 hf).2
    rcases hw.cases_head with h1 | ⟨_, h1, _⟩
    · exact absurd h1 (hl _)
    · exact absurd h1 (hl _)
/- sound -/
def tk (p : Pl) (i : Nat) : Prop := p.live.testBit i = true ∨ p.done.testBit i = true
structure Sound (p : Pl) : Prop where
  size : 1 ≤ p.size ∧ p.size ≤ 32
  sorted : Sorted p.m p.o
  low : ∀ i, i < 32 → p.m i < 4294967296
  inn : ∀ i, tk p i → (i : Int) < p.size
  apart : ∀ i, p.live.testBit i = true → p.done.testBit i = true → False
  edges : ∀ i j, E p.m i j → tk p i ∧ tk p j
  count : 0 ≤ p.count
  ids : ∀ i, i < 32 → 0 ≤ p.ids i ∧ p.ids i ≤ p.count
  pos : ∀ i, tk p i → 1 ≤ p.ids i
  uniq : ∀ i j, tk p i → tk p j → p.ids i = p.ids j → i = j
theorem Sound.tk32 {p : Pl} (h : Sound p) {i : Nat} (hi : tk p i) : i < 32 := by have := h.inn i hi; have := h.size.2; omega
theorem Sound.live32 {p : Pl} (h : Sound p) : p.live < 4294967296 := lt32 fun _ hj => h.tk32 (.inl hj)
theorem Sound.done32 {p : Pl} (h : Sound p) : p.done < 4294967296 := lt32 fun _ hj => h.tk32 (.inr hj)
theorem tk_or {p : Pl} {i : Nat} : tk p i ↔ (p.live ||| p.done).testBit i = true := by rw [Nat.testBit_or, Bool.or_eq_true]; exact Iff.rfl
theorem Sound.ok {p : Pl} (h : Sound p) (hc : p.count ≤ 9223372036854775807) : p.Ok :=
  ⟨by have := h.size; omega, fun i hi => by have := h.low i hi; omega, h.sorted.1.ok, by have := h.live32; omega, by have := h.done32; omega, fun i hi => by have := h.ids i hi; omega, by have := h.count; omega⟩
def newP (n : Int) : Pl := ⟨n, zeroM, newO, 0, 0, zeroO, 0⟩
theorem new_sound {n : Int} (h : 1 ≤ n ∧ n ≤ 32) : Sound (newP n) :=
  ⟨h, new_sorted zero_E, fun _ _ => by simp [newP, zeroM], fun i hi => by simp [tk, newP] at hi, fun i hi => by simp [newP] at hi, fun i j he => absurd he (zero_E i j), Int.le_refl _, fun _ _ => by simp [newP, zeroO], fun i hi => by simp [tk, newP] at hi, fun i j hi => by simp [tk, newP] at hi⟩
theorem freeAt_tk {p : Pl} {s : Nat} (h : freeAt p s = true) : (s : Int) < p.size ∧ ¬ tk p s := by
  unfold freeAt at h
  rw [Bool.and_eq_true, decide_eq_true_eq] at h
  refine ⟨h.1, fun ht => ?_⟩
  rw [tk_or.1 ht] at h
  simp at h
/- beginning -/
structure InsI (p : Pl) (s : Nat) (l : List Nat) (x : Gr × O) : Prop where
  sorted : Sorted x.1 x.2
  low : ∀ i, i < 32 → x.1 i < 4294967296
  new : ∀ i j, E x.1 i j → E p.m i j ∨ (i ∈ l ∧ j = s)
  old : ∀ i j, E p.m i j → E x.1 i j
  has : ∀ i, i ∈ l → E x.1 i s
theorem insAll_inv {p : Pl} (h : Sound p) {s : Nat} (hs : s < 32) (hf : ¬ tk p s) (l : List Nat) (hl : ∀ i, i ∈ l → p.done.testBit i = true) : InsI p s l (insAll s l (p.m, p.o)) := by
  have key : ∀ (k : List Nat) (L : List Nat) (x : Gr × O), (∀ i, i ∈ k → p.done.testBit i = true) → (∀ i, i ∈ L → p.done.testBit i = true) → InsI p s L x → InsI p s (L ++ k) (insAll s k x) := by
    intro k
    induction k with
    | nil => intro L x _ _ hx; simpa [insAll] using hx
    | cons c r ih =>
      intro L x hk hL hx
      have hc : p.done.testBit c = true := hk c (by simp)
      have hcs : c ≠ s := fun e => hf (e ▸ .inr hc)
      have hc32 := h.tk32 (.inr hc)
      have hleaf : ∀ j, ¬ E x.1 s j := fun j he => by
        rcases hx.new s j he with h1 | ⟨h1, _⟩
        · exact hf (h.edges s j h1).1
        · exact hf (.inr (hL s h1))
      have hstep : InsI p s (L ++ [c]) (insStep s x c) := by
        refine ⟨insert_sorted _ _ hx.sorted, ins_low _ _ hx.low, ?_, fun i j he => ins_old (hx.old i j he), ?_⟩
        · intro i j he
          rcases ins_E he with h1 | ⟨h1, h2⟩
          · rcases hx.new i j h1 with h3 | ⟨h3, h4⟩
            · exact .inl h3
            · exact .inr ⟨by simp [h3], h4⟩
          · refine .inr ⟨?_, by omega⟩
            have : i = c := by omega
            simp [this]
        · intro i hi
          rw [List.mem_append, List.mem_singleton] at hi
          rcases hi with hi | rfl
          · exact ins_old (hx.has i hi)
          · exact ins_leaf hc32 hs hcs hx.sorted hleaf
      have := ih (L ++ [c]) (insStep s x c) (fun i hi => hk i (by simp [hi])) (fun i hi => by
        rw [List.mem_append, List.mem_singleton] at hi
        rcases hi with hi | rfl
        · exact hL i hi
        · exact hc) hstep
      rw [List.append_assoc] at this
      exact this
  have := key l [] (p.m, p.o) hl (fun i hi => by simp at hi) ⟨h.sorted, h.low, fun i j he => .inl he, fun i j he => he, fun i hi => by simp at hi⟩
  simpa using this
theorem begun_inv {p : Pl} (h : Sound p) {s : Nat} (hs : s < 32) (hf : ¬ tk p s) : InsI p s (Sm.items p.done) (insAll s (Sm.items p.done) (p.m, p.o)) :=
  insAll_inv h hs hf _ fun _ hi => (Sm.items_mem.1 hi).2
theorem begun_tk {p : Pl} {s : Nat} (hs : s < 32) (i : Nat) : tk (begun p s) i ↔ tk p i ∨ i = s := by
  unfold tk
  show (Sm.add p.live (s : Nat)).testBit i = true ∨ p.done.testBit i = true ↔ _
  rw [Sm.add_test, Bool.or_eq_true, decide_eq_true_eq]
  constructor
  · rintro ((h | h) | h)
    · exact .inl (.inl h)
    · exact .inr (by omega)
    · exact .inl (.inr h)
  · rintro ((h | h) | rfl)
    · exact .inl (.inl h)
    · exact .inr h
    · exact .inl (.inr (by omega))
theorem begun_sound {p : Pl} (h : Sound p) {s : Nat} (hs : s < 32) (hsz : (s : Int) < p.size) (hf : ¬ tk p s) : Sound (begun p s) := by
  have hI := begun_inv h hs hf
  refine ⟨h.size, hI.sorted, hI.low, ?_, ?_, ?_, ?_, ?_, ?_, ?_⟩
  · intro i hi
    rcases (begun_tk hs i).1 hi with h1 | rfl
    · exact h.inn i h1
    · exact hsz
  · intro i h1 h2
    have h1 : (Sm.add p.live (s : Nat)).testBit i = true := h1
    have h2 : p.done.testBit i = true := h2
    rw [Sm.add_test, Bool.or_eq_true, decide_eq_true_eq] at h1
    rcases h1 with h1 | h1
    · exact h.apart i h1 h2
    · have : i = s := by omega
      exact hf (this ▸ .inr h2)
  · intro i j he
    rw [begun_tk hs, begun_tk hs]
    rcases hI.new i j he with h1 | ⟨h1, h2⟩
    · have := h.edges i j h1
      exact ⟨.inl this.1, .inl this.2⟩
    · exact ⟨.inl (.inr (Sm.items_mem.1 h1).2), .inr h2⟩
  · show 0 ≤ p.count + 1
    have := h.count; omega
  · intro i hi
    show 0 ≤ upd p.ids s (p.count + 1) i ∧ upd p.ids s (p.count + 1) i ≤ p.count + 1
    unfold upd
    have := h.ids i hi
    have := h.count
    split <;> omega
  · intro i hi
    show 1 ≤ upd p.ids s (p.count + 1) i
    unfold upd
    have := h.count
    split
    · omega
    · rename_i hne
      rcases (begun_tk hs i).1 hi with h1 | h1
      · exact h.pos i h1
      · exact absurd h1 hne
  · intro i j hi hj e
    have e : upd p.ids s (p.count + 1) i = upd p.ids s (p.count + 1) j := e
    unfold upd at e
    rcases (begun_tk hs i).1 hi with h1 | h1
    · rcases (begun_tk hs j).1 hj with h2 | h2
      · have n1 : i ≠ s := fun x => hf (x ▸ h1)
        have n2 : j ≠ s := fun x => hf (x ▸ h2)
        rw [if_neg n1, if_neg n2] at e
        exact h.uniq i j h1 h2 e
      · have n1 : i ≠ s := fun x => hf (x ▸ h1)
        rw [if_neg n1, if_pos h2] at e
        have := (h.ids i (h.tk32 h1)).2
        omega
    · rcases (begun_tk hs j).1 hj with h2 | h2
      · have n2 : j ≠ s := fun x => hf (x ▸ h2)
        rw [if_pos h1, if_neg n2] at e
        have := (h.ids j (h.tk32 h2)).2
        omega
      · rw [h1, h2]
theorem begin_sound {p : Pl} (h : Sound p) : Sound (begin p).1 := by
  unfold begin
  cases hf : ff p with
  | none => exact h
  | some s =>
    have hs := ff_spec hf
    have := freeAt_tk hs.2.1
    exact begun_sound h hs.1 this.1 this.2
/- edges -/
theorem over_sound {p : Pl} (h : Sound p) (a b : Int) (ha : taken p a = true) (hb : taken p b = true) : Sound (over p ((insert p.m p.o a b).1, (insert p.m p.o a b).2.1)) := by
  have hlt : p.live ||| p.done < 18446744073709551616 := by have := or_lt32 h.live32 h.done32; omega
  have tkOf : ∀ {i : Nat} {c : Int}, (i : Int) = c → taken p c = true → tk p i := by
    intro i c e hc
    subst e
    unfold taken at hc
    rw [Sm.has_nat _ hlt] at hc
    exact tk_or.2 hc
  exact ⟨h.size, insert_sorted _ _ h.sorted, ins_low _ _ h.low, h.inn, h.apart, fun i j he => by
    rcases ins_E he with h1 | ⟨h1, h2⟩
    · exact h.edges i j h1
    · exact ⟨tkOf h1 ha, tkOf h2 hb⟩, h.count, h.ids, h.pos, h.uniq⟩
theorem edge_sound {p : Pl} (h : Sound p) (a b : Int) : Sound (edge p a b).1 := by
  unfold edge
  by_cases h1 : a = b
  · rw [if_pos h1]; exact h
  rw [if_neg h1]
  by_cases h2 : taken p a = false ∨ taken p b = false
  · rw [if_pos h2]; exact h
  rw [if_neg h2]
  by_cases h3 : (insert p.m p.o a b).2.2 = true
  · rw [if_pos h3]
    exact over_sound h a b (by cases hx : taken p a; exact absurd (.inl hx) h2; rfl) (by cases hx : taken p b; exact absurd (.inr hx) h2; rfl)
  · rw [if_neg h3]; exact h
theorem ended_tk {p : Pl} (h : Sound p) {s : Int} (hs : Sm.has p.live s = true) (i : Nat) : tk (ended p s) i ↔ tk p i := by
  have hl := h.live32
  have h0 : 0 ≤ s := by
    rcases Int.lt_or_le s 0 with h | h
    · rw [Sm.has_neg h] at hs; cases hs
    · exact h
  rw [Sm.has_eq _ h0 (by omega)] at hs
  unfold tk ended
  rw [Sm.less_test _ _ (by omega), Sm.add_test]
  by_cases e : (i : Int) = s
  · subst e
    have hi := test32 hl hs
    rw [Int.toNat_natCast] at hs hi
    simp [hs]
    omega
  · have : ¬ (0 ≤ s ∧ s ≤ 63 ∧ (i : Int) = s) := fun x => e x.2.2
    simp [this]
theorem ended_sound {p : Pl} (h : Sound p) {s : Int} (hs : Sm.has p.live s = true) : Sound (ended p s) := by
  have ht := ended_tk h hs
  refine ⟨h.size, h.sorted, h.low, fun i hi => h.inn i ((ht i).1 hi), ?_, fun i j he => ⟨(ht i).2 (h.edges i j he).1, (ht j).2 (h.edges i j he).2⟩, h.count, h.ids, fun i hi => h.pos i ((ht i).1 hi), fun i j hi hj => h.uniq i j ((ht i).1 hi) ((ht j).1 hj)⟩
  intro i h1 h2
  have h1 : (Sm.less p.live s).testBit i = true := h1
  have h2 : (Sm.add p.done s).testBit i = true := h2
  have hl := h.live32
  rw [Sm.less_test _ _ (by omega)] at h1
  rw [Sm.add_test] at h2
  simp at h1 h2
  rcases h2 with h2 | h2
  · exact h.apart i h1.1 h2
  · have := h1.2; omega
theorem end_sound {p : Pl} (h : Sound p) (s : Int) : Sound (endP p s).1 := by
  unfold endP
  split
  · rename_i hs; exact ended_sound h hs
  · exact h
/- going -/
theorem going_done {p : Pl} (h : p.done < 18446744073709551616) {s : Nat} (hs : s < 32) (i : Nat) : (going p s).done.testBit i = true ↔ p.done.testBit i = true ∧ i ≠ s := by
  show (Sm.less p.done (s : Nat)).testBit i = true ↔ _
  rw [Sm.less_test _ _ h]
  simp
  intro _
  omega
theorem less_low {x : Nat} (s : Int) (h : x < 4294967296) : Sm.less x s < 4294967296 := lt32 fun j hj => by
  rw [Sm.less_test _ _ (by omega), Bool.and_eq_true] at hj
  exact test32 h hj.1
theorem cut_low {m : Gr} (a : Nat) (h : ∀ i, i < 32 → m i < 4294967296) : ∀ i, i < 32 → cut m a i < 4294967296 := by
  intro i hi
  unfold cut clr
  apply less_low
  have := h i hi
  split <;> omega
theorem Sound.mok {p : Pl} (h : Sound p) : Mm.Ok p.m := fun i hi => by have := h.low i hi; omega
theorem Sound.done64 {p : Pl} (h : Sound p) : p.done < 18446744073709551616 := by have := h.done32; omega
theorem Sound.live64 {p : Pl} (h : Sound p) : p.live < 18446744073709551616 := by have := h.live32; omega
theorem going_tk {p : Pl} (h : Sound p) {s : Nat} (hs : s < 32) (hd : p.done.testBit s = true) (i : Nat) : tk (going p s) i ↔ tk p i ∧ i ≠ s := by
  unfold tk
  rw [going_done h.done64 hs]
  constructor
  · rintro (h1 | h1)
    · exact ⟨.inl h1, fun e => by subst e; exact h.apart i h1 hd⟩
    · exact ⟨.inr h1.1, h1.2⟩
  · rintro ⟨h1 | h1, h2⟩
    · exact .inl h1
    · exact .inr ⟨h1, h2⟩
theorem going_sound {p : Pl} (h : Sound p) {s : Nat} (hs : s < 32) (hd : p.done.testBit s = true) : Sound (going p s) := by
  have ht := going_tk h hs hd
  have hE := fun i j => cut_E (m := p.m) h.mok hs i j
  refine ⟨h.size, ⟨h.sorted.1, fun i j he => h.sorted.2 i j ((hE i j).1 he).1⟩, cut_low _ h.low, fun i hi => h.inn i ((ht i).1 hi).1, ?_, ?_, h.count, ?_, ?_, ?_⟩
  · intro i h1 h2
    exact h.apart i h1 ((going_done h.done64 hs i).1 h2).1
  · intro i j he
    obtain ⟨h1, h2, h3⟩ := (hE i j).1 he
    have := h.edges i j h1
    exact ⟨(ht i).2 ⟨this.1, h2⟩, (ht j).2 ⟨this.2, h3⟩⟩
  · intro i hi
    show 0 ≤ upd p.ids s 0 i ∧ upd p.ids s 0 i ≤ p.count
    unfold upd
    have := h.ids i hi
    have := h.count
    split <;> omega
  · intro i hi
    have hi := (ht i).1 hi
    show 1 ≤ upd p.ids s 0 i
    unfold upd
    rw [if_neg hi.2]
    exact h.pos i hi.1
  · intro i j hi hj e
    have hi := (ht i).1 hi
    have hj := (ht j).1 hj
    have e : upd p.ids s 0 i = upd p.ids s 0 j := e
    unfold upd at e
    rw [if_neg hi.2, if_neg hj.2] at e
    exact h.uniq i j hi.1 hj.1 e
theorem collect_sound {p : Pl} (h : Sound p) : Sound (collect p).1 :=
  coll_ind (fun p r => Sound p → Sound r.1) (fun _ _ h => h) (fun _ _ _ _ hn ih h => ih (going_sound h (next_spec hn).1 (next_spec hn).2.1)) p h.done64 h
theorem collect_next {p : Pl} (h : p.done < 18446744073709551616) : next (collect p).1 = none :=
  coll_ind (fun _ r => next r.1 = none) (fun _ h => h) (fun _ _ _ _ _ ih => ih) p h
theorem collect_keeps (p : Pl) (h : p.done < 18446744073709551616) : (collect p).1.live = p.live ∧ (collect p).1.size = p.size ∧ (collect p).1.count = p.count :=
  coll_ind (fun p r => r.1.live = p.live ∧ r.1.size = p.size ∧ r.1.count = p.count) (fun _ _ => ⟨rfl, rfl, rfl⟩) (fun _ _ _ _ _ ih => ih) p h
theorem collect_len (p : Pl) (h : p.done < 18446744073709551616) : (collect p).2.length ≤ Sm.count p.done :=
  coll_ind (fun p r => r.2.length ≤ Sm.count p.done) (fun _ _ => Nat.zero_le _) (fun p s r hd hn ih => by
    have := count_less hd (by have := (next_spec hn).1; omega) (next_spec hn).2.1
    have ih : r.2.length ≤ Sm.count (Sm.less p.done (s : Nat)) := ih
    simp; omega) p h
/- acts -/
structure Act where
  kind : Nat
  a : Int
  b : Int
noncomputable def act (p : Pl) (x : Act) : Pl :=
  if x.kind % 6 = 2 ∨ x.kind % 6 = 3 then (edge p x.a x.b).1 else if x.kind % 6 = 4 then (endP p x.a).1 else if x.kind % 6 = 5 then (collect p).1 else (begin p).1
theorem act_sound {p : Pl} (h : Sound p) (x : Act) : Sound (act p x) := by
  unfold act
  split
  · exact edge_sound h _ _
  split
  · exact end_sound h _
  split
  · exact collect_sound h
  · exact begin_sound h
theorem edge_count (p : Pl) (a b : Int) : (edge p a b).1.count = p.count ∧ (edge p a b).1.size = p.size := by
  unfold edge
  split
  · exact ⟨rfl, rfl⟩
  split
  · exact ⟨rfl, rfl⟩
  split <;> exact ⟨rfl, rfl⟩
theorem end_count (p : Pl) (s : Int) : (endP p s).1.count = p.count ∧ (endP p s).1.size = p.size := by
  unfold endP
  split <;> exact ⟨rfl, rfl⟩
theorem begin_count (p : Pl) : (begin p).1.count ≤ p.count + 1 ∧ (begin p).1.size = p.size := by
  unfold begin
  cases ff p with
  | none => exact ⟨by simp; omega, rfl⟩
  | some s => exact ⟨Int.le_refl _, rfl⟩
theorem act_count {p : Pl} (h : p.done < 18446744073709551616) (x : Act) : (act p x).count ≤ p.count + 1 ∧ (act p x).size = p.size := by
  unfold act
  split
  · have := edge_count p x.a x.b; exact ⟨by omega, this.2⟩
  split
  · have := end_count p x.a; exact ⟨by omega, this.2⟩
  split
  · have := collect_keeps p h; exact ⟨by omega, this.2.1⟩
  · exact begin_count p
noncomputable def run (n : Int) (l : Nat → Act) : Nat → Pl
  | 0 => newP n
  | k + 1 => act (run n l k) (l k)
theorem run_sound {n : Int} (h : 1 ≤ n ∧ n ≤ 32) (l : Nat → Act) (k : Nat) : Sound (run n l k) := by
  induction k with
  | zero => exact new_sound h
  | succ k ih => exact act_sound ih _
theorem run_count {n : Int} (h : 1 ≤ n ∧ n ≤ 32) (l : Nat → Act) (k : Nat) : (run n l k).count ≤ (k : Int) ∧ (run n l k).size = n := by
  induction k with
  | zero => exact ⟨Int.le_refl _, rfl⟩
  | succ k ih =>
    have := act_count (run_sound h l k).done64 (l k)
    show (act (run n l k) (l k)).count ≤ _ ∧ (act (run n l k) (l k)).size = n
    omega
end Go.Proofs.YtakoceablbgchaaDoor.Po
