/-
  Engines in plain mathematics: what each call makes of an engine, and that what is right stays so. No program in it.
  Engines in plain mathematics: what holds of an engine behind every call. No program in it.
  Engines in plain mathematics: in every order by the graph each read is what its variable has then, and what is left is what the variables have. No program in it.
  What an act can be: one law for all cases; who is live behind it.
  The mathematics of what is read again, of who is refused, and of engines that are empty.
  Who has nobody behind it is never refused; engines at their beginnings. No program in it.
  The mathematics of the statements' own first look, and of what is hidden till it is committed.
-/
import Derived.Test.YtfdfiiocccafkaaGreatDoorJPool
import Derived.Test.YtfdfiiocccafkaaGreatDoorJStore
import Derived.Test.YtfdfiiocccafkaaGreatDoorJTxn
namespace Go.Proofs.YtfdfiiocccafkaaGreatDoor.En
open Mm Od
/-- an entry: a number, whether it was committed, is over, what it read, what it wrote. -/
structure Ent where
  id : Int
  com : Bool
  ovr : Bool
  rd : List Tx.Sp
  wr : List Tx.Sp
/-- an engine: a pool, variables, a transaction for each slot, whether it was committed, the log, how many were committed. -/
structure Eng where
  p : Pl
  s : List St.Vr
  t : Nat → List Tx.Sp
  c : Nat → Bool
  log : List Ent
  n : Int
def ud {α : Type} (f : Nat → α) (i : Nat) (v : α) : Nat → α := fun j => if j = i then v else f j
theorem ud_same {α : Type} (f : Nat → α) (i : Nat) (v : α) : ud f i v i = v := if_pos rfl
theorem ud_other {α : Type} {f : Nat → α} {i j : Nat} {v : α} (h : j ≠ i) : ud f i v j = f j := if_neg h
def liveAt (g : Eng) (id : Int) : Option Nat := (List.range 32).find? fun i => g.p.live.testBit i && decide (g.p.ids i = id)
def whoE (g : Eng) (id : Int) : Int := if id < 1 ∨ g.p.count < id then 3 else 6
def entry (g : Eng) (i : Nat) : Ent := ⟨g.p.ids i, g.c i, g.p.done.testBit i, Tx.readsL (g.t i), if g.c i = true then Tx.writesL (g.t i) else []⟩
def drops (S : List St.Vr) (l : List Nat) : List St.Vr := l.foldl (fun S (i : Nat) => St.dropL S (i : Nat)) S
def gather (g : Eng) : Eng := ⟨(Po.collect g.p).1, drops g.s (Po.went g.p), g.t, g.c, g.log ++ (Po.went g.p).map (entry g), g.n⟩
/-- over, ahead of the gathering. -/
def shut (g : Eng) (i : Nat) (c : Bool) : Eng := ⟨Po.ended g.p (i : Nat), g.s, g.t, ud g.c i c, g.log, g.n⟩
def closed (g : Eng) (i : Nat) (c : Bool) : Eng := gather (shut g i c)
noncomputable def begun (g : Eng) (i : Nat) : Eng := ⟨Po.begun g.p i, g.s, ud g.t i [], ud g.c i false, g.log, g.n⟩
noncomputable def begin (g : Eng) : Eng × Int × Int :=
  match Po.ff g.p with
  | none => (g, 0, 4)
  | some i => (begun g i, g.p.count + 1, 0)
noncomputable def behind (p : Pl) (s : Nat) : List Int → Option Pl
  | [] => some p
  | a :: l => if (Po.edge p a (s : Nat)).2 = 0 then behind (Po.edge p a (s : Nat)).1 s l else none
def writer (v : St.Vr) : List Int := if v.wr < 0 then [] else [v.wr]
def readers (v : St.Vr) (s : Nat) : List Int := (Sm.items (Sm.less v.m (s : Nat))).map fun (i : Nat) => (i : Int)
def aheadOf (v : St.Vr) (s : Nat) : List Int := writer v ++ readers v s
def aheadAll (S : List St.Vr) (s : Nat) (l : List Tx.Sp) : List Int := l.flatMap fun w => aheadOf (St.at_ S w.x) s
/-- what a read leaves that is not refused. -/
def readTo (g : Eng) (i : Nat) (x : Int) (q : Pl) : Eng :=
  ⟨q, St.markL g.s x (i : Nat), ud g.t i (g.t i ++ [⟨x, (St.at_ g.s x).k, (St.at_ g.s x).n, false⟩]), g.c, g.log, g.n⟩
noncomputable def read (g : Eng) (id x : Int) : Eng × (Int × Int) × Int :=
  match liveAt g id with
  | none => (g, (0, 0), whoE g id)
  | some i =>
    if St.has g.s x then
      match Tx.look (g.t i) x with
      | some s => (g, (s.k, s.n), 0)
      | none =>
        if 200 ≤ (g.t i).length then (g, (0, 0), 4) else
        match behind g.p i (writer (St.at_ g.s x)) with
        | none => (closed g i false, (0, 0), 5)
        | some q => (readTo g i x q, ((St.at_ g.s x).k, (St.at_ g.s x).n), 0)
    else (g, (0, 0), 2)
def setT (g : Eng) (i : Nat) (l : List Tx.Sp) : Eng := ⟨g.p, g.s, ud g.t i l, g.c, g.log, g.n⟩
def write (g : Eng) (id x k n : Int) : Eng × Int :=
  match liveAt g id with
  | none => (g, whoE g id)
  | some i =>
    if St.has g.s x then
      if Tx.addE (g.t i) ⟨x, k, n, true⟩ = 0 then (setT g i (g.t i ++ [⟨x, k, n, true⟩]), 0) else (g, Tx.addE (g.t i) ⟨x, k, n, true⟩)
    else (g, 2)
def save (g : Eng) (id : Int) : Int × Int :=
  match liveAt g id with
  | none => (0, whoE g id)
  | some i => ((g.t i).length, 0)
def back (g : Eng) (id to : Int) : Eng × Int :=
  match liveAt g id with
  | none => (g, whoE g id)
  | some i => if 0 ≤ to ∧ to ≤ ((g.t i).length : Int) then (setT g i (Tx.backL (g.t i) to.toNat), 0) else (g, 2)
def puts (S : List St.Vr) (ver : Int) (i : Nat) (l : List Tx.Sp) : List St.Vr := l.foldl (fun S w => St.putL S w.x w.k w.n ver (i : Nat)) S
/-- what is there of a commit that is not refused, ahead of its end. -/
def wrote (g : Eng) (i : Nat) (q : Pl) : Eng := ⟨q, puts g.s (g.n + 1) i (Tx.writesL (g.t i)), g.t, g.c, g.log, g.n + 1⟩
noncomputable def commit (g : Eng) (id : Int) : Eng × Int :=
  match liveAt g id with
  | none => (g, whoE g id)
  | some i =>
    match behind g.p i (aheadAll g.s i (Tx.writesL (g.t i))) with
    | none => (closed g i false, 5)
    | some q => (closed (wrote g i q) i true, 0)
def abort (g : Eng) (id : Int) : Eng × Int :=
  match liveAt g id with
  | none => (g, whoE g id)
  | some i => (closed g i false, 0)
def tkB (g : Eng) : Nat := g.p.live ||| g.p.done
def slots (g : Eng) : List Nat := Od.standing g.p.o (tkB g)
def rest (g : Eng) : List Ent := (slots g).map (entry g)
def vals (S : List St.Vr) : List (Int × Int) := S.map fun v => (v.k, v.n)
def new (n vars : Int) : Eng := ⟨Po.newP n, St.newL vars, fun _ => [], fun _ => false, [], 0⟩
/-- a call, and what it answers: a value, a number, an error. -/
structure Act where
  kind : Nat
  id : Int
  x : Int
  k : Int
  n : Int
noncomputable def act (g : Eng) (a : Act) : Eng × (Int × Int) × Int × Int :=
  if 2 ≤ a.kind % 12 ∧ a.kind % 12 ≤ 4 then ((read g a.id a.x).1, (read g a.id a.x).2.1, 0, (read g a.id a.x).2.2)
  else if 5 ≤ a.kind % 12 ∧ a.kind % 12 ≤ 7 then ((write g a.id a.x a.k a.n).1, (0, 0), 0, (write g a.id a.x a.k a.n).2)
  else if 8 ≤ a.kind % 12 ∧ a.kind % 12 ≤ 9 then ((commit g a.id).1, (0, 0), 0, (commit g a.id).2)
  else if a.kind % 12 = 10 then ((abort g a.id).1, (0, 0), 0, (abort g a.id).2)
  else if a.kind % 12 = 11 then ((back g a.id a.x).1, (0, 0), 0, (back g a.id a.x).2)
  else ((begin g).1, (0, 0), (begin g).2.1, (begin g).2.2)
/- who is live -/
theorem liveAt_some {g : Eng} {id : Int} {i : Nat} (h : liveAt g id = some i) : i < 32 ∧ g.p.live.testBit i = true ∧ g.p.ids i = id := by
  unfold liveAt at h
  rw [List.find?_range_eq_some] at h
  have h1 := h.1
  rw [Bool.and_eq_true, decide_eq_true_eq] at h1
  exact ⟨by simpa using h.2.1, h1.1, h1.2⟩
theorem liveAt_of {g : Eng} (hs : Po.Sound g.p) {i : Nat} (h : g.p.live.testBit i = true) : liveAt g (g.p.ids i) = some i := by
  have hi := hs.tk32 (.inl h)
  cases e : liveAt g (g.p.ids i) with
  | none =>
    unfold liveAt at e
    rw [List.find?_eq_none] at e
    have := e i (by simpa using hi)
    simp [h] at this
  | some j =>
    have hj := liveAt_some e
    rw [hs.uniq j i (.inl hj.2.1) (.inl h) hj.2.2]
theorem liveAt_none {g : Eng} {id : Int} (h : liveAt g id = none) {i : Nat} (hi : i < 32) (hl : g.p.live.testBit i = true) : g.p.ids i ≠ id := by
  unfold liveAt at h
  rw [List.find?_eq_none] at h
  have := h i (by simpa using hi)
  simp [hl] at this
  exact this
theorem liveAt_in {g : Eng} (hs : Po.Sound g.p) {id : Int} {i : Nat} (h : liveAt g id = some i) : ¬ (id < 1 ∨ g.p.count < id) := by
  obtain ⟨hi, hl, rfl⟩ := liveAt_some h
  have := hs.pos i (.inl hl)
  have := hs.ids i hi
  omega
/- edges -/
theorem edge_ok {p : Pl} {a : Int} {s : Nat} (h : (Po.edge p a (s : Nat)).2 = 0) : a ≠ (s : Nat) ∧ Po.taken p a = true ∧ Po.taken p (s : Nat) = true ∧ (insert p.m p.o a (s : Nat)).2.2 = true ∧ (Po.edge p a (s : Nat)).1 = Po.over p ((insert p.m p.o a (s : Nat)).1, (insert p.m p.o a (s : Nat)).2.1) := by
  unfold Po.edge at h ⊢
  by_cases h1 : a = (s : Nat)
  · rw [if_pos h1] at h; exact absurd (show (2 : Int) = 0 from h) (by decide)
  rw [if_neg h1] at h ⊢
  by_cases h2 : Po.taken p a = false ∨ Po.taken p (s : Nat) = false
  · rw [if_pos h2] at h; exact absurd (show (3 : Int) = 0 from h) (by decide)
  rw [if_neg h2] at h ⊢
  by_cases h3 : (insert p.m p.o a (s : Nat)).2.2 = true
  · rw [if_pos h3]
    exact ⟨h1, by cases hx : Po.taken p a; exact absurd (.inl hx) h2; rfl, by cases hx : Po.taken p (s : Nat); exact absurd (.inr hx) h2; rfl, h3, rfl⟩
  · rw [if_neg h3] at h; exact absurd (show (5 : Int) = 0 from h) (by decide)
theorem ins_new {m : Gr} {o : O} {a b : Int} (h : (insert m o a b).2.2 = true) : ∃ x y : Nat, a = x ∧ b = y ∧ E (insert m o a b).1 x y := by
  revert h
  refine insert_cases m o a b (fun r => r.2.2 = true → ∃ x y : Nat, a = x ∧ b = y ∧ E r.1 x y) (fun _ h => by cases h) ?_ (fun _ _ _ _ _ _ _ _ _ _ h => by cases h) ?_
  · intro x y hx hy hx32 hy32 _ _ _ _
    exact ⟨x, y, hx, hy, (put_E hx32 hy32 x y).2 (.inr ⟨rfl, rfl⟩)⟩
  · intro x y hx hy hx32 hy32 _ _ _ _ _
    exact ⟨x, y, hx, hy, (put_E hx32 hy32 x y).2 (.inr ⟨rfl, rfl⟩)⟩
/-- a pool with more edges, all else as it was. -/
structure More (p q : Pl) : Prop where
  sound : Po.Sound q
  size : q.size = p.size
  live : q.live = p.live
  done : q.done = p.done
  ids : q.ids = p.ids
  count : q.count = p.count
  edge : ∀ i j, E p.m i j → E q.m i j
theorem More.refl {p : Pl} (h : Po.Sound p) : More p p := ⟨h, rfl, rfl, rfl, rfl, rfl, fun _ _ h => h⟩
theorem More.trans {p q r : Pl} (h : More p q) (k : More q r) : More p r :=
  ⟨k.sound, k.size.trans h.size, k.live.trans h.live, k.done.trans h.done, k.ids.trans h.ids, k.count.trans h.count, fun i j e => k.edge i j (h.edge i j e)⟩
theorem More.tk {p q : Pl} (h : More p q) (i : Nat) : Po.tk q i ↔ Po.tk p i := by unfold Po.tk; rw [h.live, h.done]
theorem More.way {p q : Pl} (h : More p q) {i j : Nat} (w : W (E p.m) i j) : W (E q.m) i j := w.mono h.edge
theorem edge_more {p : Pl} (hs : Po.Sound p) {a : Int} {s : Nat} (h : (Po.edge p a (s : Nat)).2 = 0) : More p (Po.edge p a (s : Nat)).1 ∧ ∃ x : Nat, a = x ∧ E (Po.edge p a (s : Nat)).1.m x s := by
  obtain ⟨_, h1, h2, h3, e⟩ := edge_ok h
  have hso := Po.edge_sound hs a (s : Nat)
  rw [e] at hso ⊢
  refine ⟨⟨hso, rfl, rfl, rfl, rfl, rfl, fun i j he => Po.ins_old he⟩, ?_⟩
  obtain ⟨x, y, hx, hy, he⟩ := ins_new h3
  have : y = s := by omega
  subst this
  exact ⟨x, hx, he⟩
theorem behind_more {s : Nat} : ∀ {l : List Int} {p q : Pl}, Po.Sound p → behind p s l = some q → More p q ∧ ∀ a ∈ l, ∃ x : Nat, a = x ∧ E q.m x s
  | [], p, q, hs, h => by
    unfold behind at h
    cases h
    exact ⟨More.refl hs, fun a ha => by cases ha⟩
  | a :: l, p, q, hs, h => by
    unfold behind at h
    by_cases h0 : (Po.edge p a (s : Nat)).2 = 0
    · rw [if_pos h0] at h
      obtain ⟨h1, x, hx, he⟩ := edge_more hs h0
      obtain ⟨h2, h3⟩ := behind_more h1.sound h
      refine ⟨h1.trans h2, fun b hb => ?_⟩
      rcases List.mem_cons.1 hb with rfl | hb
      · exact ⟨x, hx, h2.edge _ _ he⟩
      · exact h3 b hb
    · rw [if_neg h0] at h; cases h
theorem behind_append (p : Pl) (s : Nat) : ∀ (l k : List Int), behind p s (l ++ k) = (behind p s l).bind fun q => behind q s k := by
  intro l
  induction l generalizing p with
  | nil => intro k; rfl
  | cons a l ih =>
    intro k
    show (if (Po.edge p a (s : Nat)).2 = 0 then behind (Po.edge p a (s : Nat)).1 s (l ++ k) else none) = _
    by_cases h0 : (Po.edge p a (s : Nat)).2 = 0
    · rw [if_pos h0, ih]
      show _ = (if (Po.edge p a (s : Nat)).2 = 0 then behind (Po.edge p a (s : Nat)).1 s l else none).bind _
      rw [if_pos h0]
    · rw [if_neg h0]
      show _ = (if (Po.edge p a (s : Nat)).2 = 0 then behind (Po.edge p a (s : Nat)).1 s l else none).bind _
      rw [if_neg h0]; rfl
/- variables -/
theorem at_get {S : List St.Vr} {x : Int} (h : St.has S x) : S[x.toNat]? = some (St.at_ S x) := St.at_mem h
theorem vals_len (S : List St.Vr) : (vals S).length = S.length := by simp [vals]
theorem drops_nil (S : List St.Vr) : drops S [] = S := rfl
theorem drops_cons (S : List St.Vr) (i : Nat) (l : List Nat) : drops S (i :: l) = drops (St.dropL S (i : Nat)) l := rfl
theorem vals_drop (S : List St.Vr) (i : Int) : vals (St.dropL S i) = vals S := by simp [vals, St.dropL, St.dr]
theorem vals_drops (l : List Nat) : ∀ S : List St.Vr, vals (drops S l) = vals S := by
  induction l with
  | nil => intro S; rfl
  | cons i l ih => intro S; rw [drops_cons, ih, vals_drop]
theorem markL_eq {S : List St.Vr} {x : Int} {i : Nat} (h : St.has S x) (hi : i < 32) : St.markL S x (i : Nat) = S.set x.toNat (St.mk (i : Nat) (St.at_ S x)) := by
  have e : St.markE S x (i : Nat) = 0 := by unfold St.markE; rw [if_pos h, if_pos (show St.slot (i : Nat) from ⟨by omega, by omega⟩)]
  unfold St.markL
  rw [if_pos e]
theorem putL_eq {S : List St.Vr} {x k n ver : Int} {i : Nat} (h : St.has S x) (hr : St.right k n = true) (hi : i < 32) : St.putL S x k n ver (i : Nat) = S.set x.toNat ⟨k, n, ver, (i : Nat), 0⟩ := by
  have e : St.putE S x k n (i : Nat) = 0 := by unfold St.putE; rw [if_pos h, if_pos ⟨hr, .inr (show St.slot (i : Nat) from ⟨by omega, by omega⟩)⟩]
  unfold St.putL
  rw [if_pos e]
theorem right_eq (k n : Int) : Tx.right k n = St.right k n := rfl
/-- what is got of a row of puts. -/
theorem puts_len (ver : Int) (i : Nat) : ∀ (l : List Tx.Sp) (S : List St.Vr), (puts S ver i l).length = S.length := by
  intro l
  induction l with
  | nil => intro S; rfl
  | cons w l ih =>
    intro S
    show (puts (St.putL S w.x w.k w.n ver (i : Nat)) ver i l).length = _
    rw [ih]
    unfold St.putL
    split <;> simp
theorem has_len {S T : List St.Vr} (h : T.length = S.length) (x : Int) : St.has T x ↔ St.has S x := by unfold St.has; rw [h]
theorem puts_get (ver : Int) {i : Nat} (hi : i < 32) (x : Nat) : ∀ (l : List Tx.Sp) (S : List St.Vr), (∀ w ∈ l, St.has S w.x ∧ St.right w.k w.n = true) →
    (∃ w ∈ l, w.x = (x : Nat) ∧ (puts S ver i l)[x]? = some ⟨w.k, w.n, ver, (i : Nat), 0⟩) ∨ ((∀ w ∈ l, w.x ≠ (x : Nat)) ∧ (puts S ver i l)[x]? = S[x]?) := by
  intro l
  induction l with
  | nil => intro S _; exact .inr ⟨fun w hw => absurd hw List.not_mem_nil, rfl⟩
  | cons w l ih =>
    intro S h
    obtain ⟨hw, hr⟩ := h w (by simp)
    have hp := putL_eq (ver := ver) hw hr hi
    have hl : (St.putL S w.x w.k w.n ver (i : Nat)).length = S.length := by rw [hp]; simp
    show (∃ w' ∈ w :: l, w'.x = (x : Nat) ∧ (puts (St.putL S w.x w.k w.n ver (i : Nat)) ver i l)[x]? = _) ∨ (_ ∧ (puts (St.putL S w.x w.k w.n ver (i : Nat)) ver i l)[x]? = _)
    rcases ih (St.putL S w.x w.k w.n ver (i : Nat)) (fun u hu => ⟨(has_len hl _).2 (h u (by simp [hu])).1, (h u (by simp [hu])).2⟩) with ⟨u, hu, h1, h2⟩ | ⟨h1, h2⟩
    · exact .inl ⟨u, by simp [hu], h1, h2⟩
    · by_cases e : w.x = (x : Nat)
      · refine .inl ⟨w, by simp, e, ?_⟩
        rw [h2, hp, e]
        unfold St.has at hw
        rw [Int.toNat_natCast, List.getElem?_set_self (by omega)]
      · refine .inr ⟨fun u hu => ?_, ?_⟩
        · rcases List.mem_cons.1 hu with rfl | hu
          · exact e
          · exact h1 u hu
        · rw [h2, hp, List.getElem?_set_ne]
          unfold St.has at hw
          omega
end Go.Proofs.YtfdfiiocccafkaaGreatDoor.En
namespace Go.Proofs.YtfdfiiocccafkaaGreatDoor.En
open Mm Od
/-- an entry over so many variables. -/
structure EntOk (n : Nat) (e : Ent) : Prop where
  rd : ∀ s ∈ e.rd, (0 ≤ s.x ∧ s.x < (n : Int)) ∧ s.ok
  wr : ∀ s ∈ e.wr, (0 ≤ s.x ∧ s.x < (n : Int)) ∧ s.ok ∧ e.com = true
  rl : e.rd.length ≤ 64
  wl : e.wr.length ≤ 64
structure Inv (K : Int) (g : Eng) : Prop where
  ps : Po.Sound g.p
  cnt : g.p.count ≤ K
  num : 0 ≤ g.n ∧ g.n ≤ K
  len : g.s.length ≤ 64
  vok : ∀ v ∈ g.s, v.ok ∧ St.right v.k v.n = true
  wr : ∀ v ∈ g.s, v.wr = -1 ∨ ∃ i : Nat, v.wr = i ∧ Po.tk g.p i ∧ g.c i = true
  mar : ∀ v ∈ g.s, ∀ i, v.m.testBit i = true → Po.tk g.p i
  tl : ∀ i, Po.tk g.p i → (g.t i).length ≤ 200
  ts : ∀ i, Po.tk g.p i → ∀ s ∈ g.t i, St.has g.s s.x ∧ Tx.right s.k s.n = true ∧ s.ok
  liv : ∀ i, g.p.live.testBit i = true → g.c i = false
  log : (g.log.length : Int) + (Sm.count (tkB g) : Nat) = g.p.count
  ent : ∀ e ∈ g.log, EntOk g.s.length e ∧ e.ovr = true ∧ 1 ≤ e.id ∧ e.id ≤ g.p.count
theorem Inv.mono {K L : Int} {g : Eng} (h : Inv K g) (hL : K ≤ L) : Inv L g :=
  ⟨h.ps, by have := h.cnt; omega, by have := h.num; omega, h.len, h.vok, h.wr, h.mar, h.tl, h.ts, h.liv, h.log, h.ent⟩
theorem reads_mem {L : List Tx.Sp} {s : Tx.Sp} (h : s ∈ Tx.readsL L) : s ∈ L ∧ s.wr = false ∧ 0 ≤ s.x ∧ s.x < 64 := by
  obtain ⟨x, hx, e⟩ := Tx.mem_rise h
  obtain ⟨h1, h2, h3⟩ := Tx.rd1_some e
  exact ⟨h1, h3, by omega, by omega⟩
theorem writes_mem {L : List Tx.Sp} {s : Tx.Sp} (h : s ∈ Tx.writesL L) : s ∈ L ∧ s.wr = true ∧ 0 ≤ s.x ∧ s.x < 64 := by
  obtain ⟨x, hx, e⟩ := Tx.mem_rise h
  obtain ⟨h1, h2, h3⟩ := Tx.wr1_some e
  exact ⟨h1, h3, by omega, by omega⟩
theorem Inv.entry {K : Int} {g : Eng} (h : Inv K g) {i : Nat} (hi : Po.tk g.p i) : EntOk g.s.length (entry g i) := by
  refine ⟨fun s hs => ?_, fun s hs => ?_, Tx.rise_len _ _, ?_⟩
  · have := h.ts i hi s (reads_mem hs).1
    exact ⟨this.1, this.2.2⟩
  · have hs : s ∈ (if g.c i = true then Tx.writesL (g.t i) else []) := hs
    cases hc : g.c i with
    | false => rw [hc] at hs; simp at hs
    | true =>
      rw [hc] at hs
      have := h.ts i hi s (writes_mem (by simpa using hs)).1
      exact ⟨this.1, this.2.2, hc⟩
  · show (if g.c i = true then Tx.writesL (g.t i) else []).length ≤ 64
    split
    · exact Tx.rise_len _ _
    · simp
theorem tkB_test (g : Eng) (i : Nat) : (tkB g).testBit i = true ↔ Po.tk g.p i := Po.tk_or.symm
theorem Inv.tkB32 {K : Int} {g : Eng} (h : Inv K g) : tkB g < 4294967296 := or_lt32 h.ps.live32 h.ps.done32
theorem get_mem {S : List St.Vr} {x : Int} (hx : St.has S x) : St.at_ S x ∈ S := List.mem_of_getElem? (at_get hx)
/- one that goes -/
def goes (g : Eng) (s : Nat) : Eng := ⟨Po.going g.p s, St.dropL g.s (s : Nat), g.t, g.c, g.log ++ [entry g s], g.n⟩
theorem entry_goes {g : Eng} (hd : g.p.done < 18446744073709551616) {s i : Nat} (hs : s < 32) (h : i ≠ s) : entry (goes g s) i = entry g i := by
  have h1 : (Po.going g.p s).ids i = g.p.ids i := by show Od.upd g.p.ids s 0 i = _; unfold Od.upd; rw [if_neg h]
  have h2 : (Po.going g.p s).done.testBit i = g.p.done.testBit i := by
    rw [Bool.eq_iff_iff, Po.going_done hd hs]
    exact ⟨fun x => x.1, fun x => ⟨x, h⟩⟩
  show Ent.mk ((Po.going g.p s).ids i) (g.c i) ((Po.going g.p s).done.testBit i) _ _ = _
  rw [h1, h2]; rfl
theorem gather_none {g : Eng} (h : Po.next g.p = none) : gather g = g := by
  unfold gather
  rw [Po.collect_none h, Po.went_none h, drops_nil]
  simp
theorem gather_some {g : Eng} (hd : g.p.done < 18446744073709551616) {s : Nat} (h : Po.next g.p = some s) : gather g = gather (goes g s) := by
  have hs := Po.next_spec h
  unfold gather
  rw [Po.collect_some hd h, Po.went_some hd h, drops_cons]
  have e : List.map (entry g) (s :: Po.went (Po.going g.p s)) = [entry g s] ++ List.map (entry (goes g s)) (Po.went (Po.going g.p s)) := by
    rw [List.map_cons]
    refine congrArg (entry g s :: ·) (List.map_congr_left fun t ht => ?_)
    have := ((Po.went_done (p := Po.going g.p s) (Sm.less_lt _ hd)).1 t ht).2
    exact (entry_goes hd hs.1 ((Po.going_done hd hs.1 t).1 this).2).symm
  rw [e, ← List.append_assoc]
  rfl
theorem gather_ind (P : Eng → Prop) (step : ∀ g s, P g → g.p.done < 18446744073709551616 → Po.next g.p = some s → P (goes g s)) : ∀ g : Eng, g.p.done < 18446744073709551616 → P g → P (gather g) := by
  have key : ∀ n (g : Eng), Sm.count g.p.done = n → g.p.done < 18446744073709551616 → P g → P (gather g) := by
    intro n
    induction n using Nat.strongRecOn with
    | ind n ih =>
      intro g hn hd hP
      cases hx : Po.next g.p with
      | none => rw [gather_none hx]; exact hP
      | some s =>
        rw [gather_some hd hx]
        have hs := Po.next_spec hx
        have := Po.count_less hd (by omega) hs.2.1
        exact ih (Sm.count (goes g s).p.done) (by show Sm.count (Sm.less g.p.done (s : Nat)) < n; omega) _ rfl (Sm.less_lt _ hd) (step g s hP hd hx)
  exact fun g hd hP => key _ g rfl hd hP
theorem goes_inv {K : Int} {g : Eng} (h : Inv K g) {s : Nat} (hn : Po.next g.p = some s) : Inv K (goes g s) := by
  obtain ⟨hs, hd, hE⟩ := Po.next_spec hn
  have htk := Po.going_tk h.ps hs hd
  have hl : (St.dropL g.s (s : Nat)).length = g.s.length := by simp [St.dropL]
  refine ⟨Po.going_sound h.ps hs hd, h.cnt, h.num, by show (St.dropL g.s (s : Nat)).length ≤ 64; rw [hl]; exact h.len, ?_, ?_, ?_, fun i hi => h.tl i ((htk i).1 hi).1, ?_, h.liv, ?_, ?_⟩
  · intro v hv
    obtain ⟨u, hu, rfl⟩ := List.mem_map.1 hv
    exact ⟨St.dr_ok (h.vok u hu).1 _, (h.vok u hu).2⟩
  · intro v hv
    obtain ⟨u, hu, rfl⟩ := List.mem_map.1 hv
    show (if u.wr = (s : Nat) then (-1 : Int) else u.wr) = -1 ∨ ∃ i : Nat, (if u.wr = (s : Nat) then (-1 : Int) else u.wr) = i ∧ Po.tk (Po.going g.p s) i ∧ g.c i = true
    by_cases e : u.wr = (s : Nat)
    · rw [if_pos e]; exact .inl rfl
    · rw [if_neg e]
      rcases h.wr u hu with h1 | ⟨i, h1, h2, h3⟩
      · exact .inl h1
      · exact .inr ⟨i, h1, (htk i).2 ⟨h2, fun x => e (by rw [h1, x])⟩, h3⟩
  · intro v hv i hi
    obtain ⟨u, hu, rfl⟩ := List.mem_map.1 hv
    have hi : (Sm.less u.m (s : Nat)).testBit i = true := hi
    rw [Sm.less_test _ _ (h.vok u hu).1.2.2.2.2] at hi
    simp at hi
    exact (htk i).2 ⟨h.mar u hu i hi.1, fun x => by subst x; omega⟩
  · intro i hi t ht
    have := h.ts i ((htk i).1 hi).1 t ht
    exact ⟨(has_len hl _).2 this.1, this.2⟩
  · have e : tkB (goes g s) = Sm.less (tkB g) (s : Nat) := by
      apply Sm.ext
      intro j
      rw [Bool.eq_iff_iff, tkB_test, Sm.less_test _ _ (by have := h.tkB32; omega)]
      show Po.tk (Po.going g.p s) j ↔ _
      rw [htk j, Bool.and_eq_true, tkB_test]
      refine and_congr Iff.rfl ?_
      simp; omega
    have hc := Po.count_less (x := tkB g) (s := s) (by have := h.tkB32; omega) (by omega) ((tkB_test g s).2 (.inr hd))
    rw [e]
    show ((g.log ++ [entry g s]).length : Int) + _ = g.p.count
    have := h.log
    simp
    omega
  · intro e he
    rw [show (goes g s).s.length = g.s.length from hl]
    rcases List.mem_append.1 he with he | he
    · exact h.ent e he
    · simp at he
      subst he
      have hi := h.ps.ids s hs
      exact ⟨h.entry (.inr hd), hd, h.ps.pos s (.inr hd), hi.2⟩
theorem gather_inv {K : Int} {g : Eng} (h : Inv K g) : Inv K (gather g) :=
  gather_ind (Inv K) (fun _ _ hP _ hn => goes_inv hP hn) g h.ps.done64 h
/- one that is over -/
theorem ended_live {p : Pl} (h : Po.Sound p) {i : Nat} (hi : p.live.testBit i = true) (j : Nat) : (Po.ended p (i : Nat)).live.testBit j = true ↔ p.live.testBit j = true ∧ j ≠ i := by
  have h32 := h.tk32 (.inl hi)
  show (Sm.less p.live (i : Nat)).testBit j = true ↔ _
  rw [Sm.less_test _ _ h.live64]
  simp
  intro _; omega
theorem ended_done {p : Pl} (h : Po.Sound p) {i : Nat} (hi : p.live.testBit i = true) (j : Nat) : (Po.ended p (i : Nat)).done.testBit j = true ↔ p.done.testBit j = true ∨ j = i := by
  have h32 := h.tk32 (.inl hi)
  show (Sm.add p.done (i : Nat)).testBit j = true ↔ _
  rw [Sm.add_test]
  simp
  refine or_congr Iff.rfl ?_
  omega
theorem has_live {p : Pl} (h : Po.Sound p) {i : Nat} (hi : p.live.testBit i = true) : Sm.has p.live (i : Nat) = true := by rw [Sm.has_nat _ h.live64]; exact hi
theorem shut_tkB {g : Eng} (h : Po.Sound g.p) {i : Nat} (hi : g.p.live.testBit i = true) (c : Bool) : tkB (shut g i c) = tkB g := by
  apply Sm.ext
  intro j
  rw [Bool.eq_iff_iff, tkB_test, tkB_test]
  exact Po.ended_tk h (has_live h hi) j
theorem shut_inv {K : Int} {g : Eng} (h : Inv K g) {i : Nat} (hi : g.p.live.testBit i = true) : Inv K (shut g i false) := by
  have htk := Po.ended_tk h.ps (has_live h.ps hi)
  refine ⟨Po.ended_sound h.ps (has_live h.ps hi), h.cnt, h.num, h.len, h.vok, ?_, fun v hv j hj => (htk j).2 (h.mar v hv j hj), fun j hj => h.tl j ((htk j).1 hj), fun j hj => h.ts j ((htk j).1 hj), ?_, ?_, h.ent⟩
  · intro v hv
    rcases h.wr v hv with h1 | ⟨j, h1, h2, h3⟩
    · exact .inl h1
    · refine .inr ⟨j, h1, (htk j).2 h2, ?_⟩
      have : j ≠ i := fun e => by rw [e, h.liv i hi] at h3; cases h3
      show ud g.c i false j = true
      rw [ud_other this]; exact h3
  · intro j hj
    have hj := (ended_live h.ps hi j).1 hj
    show ud g.c i false j = false
    rw [ud_other hj.2]; exact h.liv j hj.1
  · rw [shut_tkB h.ps hi]; exact h.log
theorem closed_inv {K : Int} {g : Eng} (h : Inv K g) {i : Nat} (hi : g.p.live.testBit i = true) : Inv K (closed g i false) := gather_inv (shut_inv h hi)
/- more edges -/
theorem more_tkB {g : Eng} {q : Pl} (m : More g.p q) : q.live ||| q.done = tkB g := by unfold tkB; rw [m.live, m.done]
theorem commit_inv {K : Int} {g : Eng} (h : Inv K g) (hK : K ≤ 1000000) {i : Nat} (hi : g.p.live.testBit i = true) {q : Pl} (m : More g.p q) : Inv (K + 1) (shut (wrote g i q) i true) := by
  have hq : q.live.testBit i = true := by rw [m.live]; exact hi
  have h32 := h.ps.tk32 (.inl hi)
  have htk : ∀ j, Po.tk (Po.ended q (i : Nat)) j ↔ Po.tk g.p j := fun j => (Po.ended_tk m.sound (has_live m.sound hq) j).trans (m.tk j)
  have hW : ∀ w ∈ Tx.writesL (g.t i), St.has g.s w.x ∧ St.right w.k w.n = true := fun w hw => by
    have := h.ts i (.inl hi) w (writes_mem hw).1
    exact ⟨this.1, this.2.1⟩
  have hl := puts_len (g.n + 1) i (Tx.writesL (g.t i)) g.s
  have hv : ∀ v ∈ puts g.s (g.n + 1) i (Tx.writesL (g.t i)), (∃ w ∈ Tx.writesL (g.t i), v = ⟨w.k, w.n, g.n + 1, (i : Nat), 0⟩) ∨ v ∈ g.s := by
    intro v hv
    obtain ⟨x, hx⟩ := List.mem_iff_getElem?.1 hv
    rcases puts_get (g.n + 1) h32 x _ g.s hW with ⟨w, hw, _, e⟩ | ⟨_, e⟩
    · rw [e] at hx; exact .inl ⟨w, hw, (Option.some.inj hx).symm⟩
    · rw [e] at hx; exact .inr (List.mem_of_getElem? hx)
  have hn := h.num
  refine ⟨Po.ended_sound m.sound (has_live m.sound hq), by show q.count ≤ _; rw [m.count]; have := h.cnt; omega, by show 0 ≤ g.n + 1 ∧ g.n + 1 ≤ K + 1; omega, by show (puts g.s (g.n + 1) i _).length ≤ 64; rw [hl]; exact h.len, ?_, ?_, ?_, fun j hj => h.tl j ((htk j).1 hj), ?_, ?_, ?_, ?_⟩
  · intro v hx
    rcases hv v hx with ⟨w, hw, rfl⟩ | hx
    · have := (h.ts i (.inl hi) w (writes_mem hw).1).2.2
      refine ⟨⟨this.2.1, this.2.2, ?_, ?_, ?_⟩, (hW w hw).2⟩
      · show -9223372036854775808 ≤ g.n + 1 ∧ g.n + 1 ≤ 9223372036854775807; omega
      · show -9223372036854775808 ≤ ((i : Nat) : Int) ∧ ((i : Nat) : Int) ≤ 9223372036854775807; omega
      · show (0 : Nat) < 18446744073709551616; omega
    · exact h.vok v hx
  · intro v hx
    rcases hv v hx with ⟨w, hw, rfl⟩ | hx
    · exact .inr ⟨i, rfl, (htk i).2 (.inl hi), ud_same _ _ _⟩
    · rcases h.wr v hx with h1 | ⟨j, h1, h2, h3⟩
      · exact .inl h1
      · refine .inr ⟨j, h1, (htk j).2 h2, ?_⟩
        have : j ≠ i := fun e => by rw [e, h.liv i hi] at h3; cases h3
        show ud g.c i true j = true
        rw [ud_other this]; exact h3
  · intro v hx j hj
    rcases hv v hx with ⟨w, hw, rfl⟩ | hx
    · simp at hj
    · exact (htk j).2 (h.mar v hx j hj)
  · intro j hj s hs
    have := h.ts j ((htk j).1 hj) s hs
    exact ⟨(has_len hl _).2 this.1, this.2⟩
  · intro j hj
    have hj := (ended_live m.sound hq j).1 hj
    rw [m.live] at hj
    show ud g.c i true j = false
    rw [ud_other hj.2]; exact h.liv j hj.1
  · rw [shut_tkB (g := wrote g i q) m.sound hq]
    show (g.log.length : Int) + (Sm.count (q.live ||| q.done) : Nat) = q.count
    rw [more_tkB m, m.count]; exact h.log
  · intro e he
    rw [show (shut (wrote g i q) i true).s.length = g.s.length from hl]
    show _ ∧ _ ∧ _ ∧ e.id ≤ q.count
    rw [m.count]
    exact h.ent e he
/- a beginning -/
theorem begun_tkB {g : Eng} {s : Nat} (hs : s < 32) : tkB (begun g s) = Sm.add (tkB g) (s : Nat) := by
  apply Sm.ext
  intro j
  rw [Bool.eq_iff_iff, tkB_test, Sm.add_test, Bool.or_eq_true, tkB_test]
  show Po.tk (Po.begun g.p s) j ↔ _
  rw [Po.begun_tk hs]
  refine or_congr Iff.rfl ?_
  simp; omega
theorem count_add {x s : Nat} (hx : x < 18446744073709551616) (hs : s < 64) (h : x.testBit s = false) : Sm.count (Sm.add x (s : Nat)) = Sm.count x + 1 := by
  have h1 := Po.count_less (x := Sm.add x (s : Nat)) (s := s) (Sm.add_lt _ hx) hs (by rw [Sm.add_test]; simp; omega)
  have h2 : Sm.less (Sm.add x (s : Nat)) (s : Nat) = x := by
    apply Sm.ext
    intro j
    rw [Sm.less_test _ _ (Sm.add_lt _ hx), Sm.add_test]
    by_cases e : j = s
    · subst e; simp [h]
    · have : ¬ (0 ≤ ((s : Nat) : Int) ∧ ((s : Nat) : Int) ≤ 63 ∧ ((j : Nat) : Int) = (s : Nat)) := by omega
      rw [decide_eq_false this]; simp
  rw [h2] at h1
  omega
theorem begun_inv {K : Int} {g : Eng} (h : Inv K g) {s : Nat} (hf : Po.ff g.p = some s) : Inv (K + 1) (begun g s) := by
  obtain ⟨hs, hfr, _⟩ := Po.ff_spec hf
  obtain ⟨hsz, hnt⟩ := Po.freeAt_tk hfr
  have htk := fun j => Po.begun_tk (p := g.p) hs j
  have ne : ∀ j, Po.tk g.p j → j ≠ s := fun j hj e => hnt (e ▸ hj)
  refine ⟨Po.begun_sound h.ps hs hsz hnt, by show g.p.count + 1 ≤ K + 1; have := h.cnt; omega, by have := h.num; show 0 ≤ g.n ∧ g.n ≤ K + 1; omega, h.len, h.vok, ?_, fun v hv j hj => (htk j).2 (.inl (h.mar v hv j hj)), ?_, ?_, ?_, ?_, ?_⟩
  · intro v hv
    rcases h.wr v hv with h1 | ⟨j, h1, h2, h3⟩
    · exact .inl h1
    · refine .inr ⟨j, h1, (htk j).2 (.inl h2), ?_⟩
      show ud g.c s false j = true
      rw [ud_other (ne j h2)]; exact h3
  · intro j hj
    show (ud g.t s [] j).length ≤ 200
    rcases (htk j).1 hj with hj | rfl
    · rw [ud_other (ne j hj)]; exact h.tl j hj
    · rw [ud_same]; simp
  · intro j hj t ht
    have ht : t ∈ ud g.t s [] j := ht
    rcases (htk j).1 hj with hj | rfl
    · rw [ud_other (ne j hj)] at ht; exact h.ts j hj t ht
    · rw [ud_same] at ht; exact absurd ht List.not_mem_nil
  · intro j hj
    show ud g.c s false j = false
    by_cases e : j = s
    · rw [e, ud_same]
    · rw [ud_other e]
      have hj : (Sm.add g.p.live (s : Nat)).testBit j = true := hj
      rw [Sm.add_test] at hj
      simp at hj
      rcases hj with hj | hj
      · exact h.liv j hj
      · omega
  · rw [begun_tkB hs]
    show (g.log.length : Int) + _ = g.p.count + 1
    rw [count_add (by have := h.tkB32; omega) (by omega) (by cases e : (tkB g).testBit s; rfl; exact absurd ((tkB_test g s).1 e) hnt)]
    have := h.log
    omega
  · intro e he
    have := h.ent e he
    exact ⟨this.1, this.2.1, this.2.2.1, by show e.id ≤ g.p.count + 1; omega⟩
/- a read -/
theorem at_len (S : List St.Vr) (x : Int) (i : Int) : (St.markL S x i).length = S.length := by unfold St.markL; split <;> simp
theorem readTo_inv {K : Int} {g : Eng} (h : Inv K g) {i : Nat} (hi : g.p.live.testBit i = true) {x : Int} (hx : St.has g.s x) (hl : (g.t i).length < 200) (hx64 : St.i64p x) {q : Pl} (m : More g.p q) : Inv K (readTo g i x q) := by
  have h32 := h.ps.tk32 (.inl hi)
  have hmk := markL_eq hx h32
  have hv := get_mem hx
  have hmem : ∀ v ∈ St.markL g.s x (i : Nat), v = St.mk (i : Nat) (St.at_ g.s x) ∨ v ∈ g.s := fun v hv => by
    rw [hmk] at hv
    rcases List.mem_or_eq_of_mem_set hv with h | h
    · exact .inr h
    · exact .inl h
  refine ⟨m.sound, by show q.count ≤ K; rw [m.count]; exact h.cnt, h.num, by show (St.markL g.s x (i : Nat)).length ≤ 64; rw [at_len]; exact h.len, ?_, ?_, ?_, ?_, ?_, ?_, ?_, ?_⟩
  · intro v hw
    rcases hmem v hw with rfl | hw
    · exact ⟨St.mk_ok (h.vok _ hv).1 _, (h.vok _ hv).2⟩
    · exact h.vok v hw
  · intro v hw
    rcases hmem v hw with rfl | hw
    · rcases h.wr _ hv with h1 | ⟨j, h1, h2, h3⟩
      · exact .inl h1
      · exact .inr ⟨j, h1, (m.tk j).2 h2, h3⟩
    · rcases h.wr _ hw with h1 | ⟨j, h1, h2, h3⟩
      · exact .inl h1
      · exact .inr ⟨j, h1, (m.tk j).2 h2, h3⟩
  · intro v hw j hj
    refine (m.tk j).2 ?_
    rcases hmem v hw with rfl | hw
    · have hj : (Sm.add (St.at_ g.s x).m (i : Nat)).testBit j = true := hj
      rw [Sm.add_test] at hj
      simp at hj
      rcases hj with hj | hj
      · exact h.mar _ hv j hj
      · have : j = i := by omega
        subst this; exact .inl hi
    · exact h.mar v hw j hj
  · intro j hj
    show (ud g.t i _ j).length ≤ 200
    by_cases e : j = i
    · rw [e, ud_same]; simp; omega
    · rw [ud_other e]; exact h.tl j ((m.tk j).1 hj)
  · intro j hj t ht
    have ht : t ∈ ud g.t i (g.t i ++ [⟨x, (St.at_ g.s x).k, (St.at_ g.s x).n, false⟩]) j := ht
    rw [show St.has (readTo g i x q).s t.x ↔ St.has g.s t.x from has_len (at_len _ _ _) _]
    by_cases e : j = i
    · rw [e, ud_same] at ht
      rcases List.mem_append.1 ht with ht | ht
      · exact h.ts i (.inl hi) t ht
      · simp at ht
        subst ht
        exact ⟨hx, (h.vok _ hv).2, hx64, (h.vok _ hv).1.1, (h.vok _ hv).1.2.1⟩
    · rw [ud_other e] at ht; exact h.ts j ((m.tk j).1 hj) t ht
  · intro j hj
    have hj : q.live.testBit j = true := hj
    rw [m.live] at hj
    exact h.liv j hj
  · show (g.log.length : Int) + (Sm.count (q.live ||| q.done) : Nat) = q.count
    rw [more_tkB m, m.count]; exact h.log
  · intro e he
    rw [show (readTo g i x q).s.length = g.s.length from at_len _ _ _]
    show _ ∧ _ ∧ _ ∧ e.id ≤ q.count
    rw [m.count]
    exact h.ent e he
theorem setT_inv {K : Int} {g : Eng} (h : Inv K g) {i : Nat} {l : List Tx.Sp} (hl : l.length ≤ 200) (hs : ∀ s ∈ l, St.has g.s s.x ∧ Tx.right s.k s.n = true ∧ s.ok) : Inv K (setT g i l) := by
  refine ⟨h.ps, h.cnt, h.num, h.len, h.vok, h.wr, h.mar, ?_, ?_, h.liv, h.log, h.ent⟩
  · intro j hj
    show (ud g.t i l j).length ≤ 200
    by_cases e : j = i
    · rw [e, ud_same]; exact hl
    · rw [ud_other e]; exact h.tl j hj
  · intro j hj t ht
    have ht : t ∈ ud g.t i l j := ht
    by_cases e : j = i
    · rw [e, ud_same] at ht; exact hs t ht
    · rw [ud_other e] at ht; exact h.ts j hj t ht
theorem add_ok {L : List Tx.Sp} {s : Tx.Sp} (h : Tx.addE L s = 0) : (0 ≤ s.x ∧ s.x < 64 ∧ Tx.right s.k s.n = true) ∧ L.length < 200 := by
  unfold Tx.addE at h
  by_cases h1 : 0 ≤ s.x ∧ s.x < 64 ∧ Tx.right s.k s.n = true
  · rw [if_pos h1] at h
    refine ⟨h1, ?_⟩
    by_cases h2 : 200 ≤ L.length
    · rw [if_pos h2] at h; exact absurd h (by decide)
    · omega
  · rw [if_neg h1] at h; exact absurd h (by decide)
/-- numbers that memory can hold. -/
structure Act.ok (a : Act) : Prop where
  id : St.i64p a.id
  x : St.i64p a.x
  k : St.i64p a.k
  n : St.i64p a.n
theorem read_inv {K : Int} {g : Eng} (h : Inv K g) {id x : Int} (hx64 : St.i64p x) : Inv K (read g id x).1 := by
  unfold read
  cases hL : liveAt g id with
  | none => exact h
  | some i =>
    have hi := liveAt_some hL
    show Inv K (if St.has g.s x then _ else _ : Eng × (Int × Int) × Int).1
    by_cases hx : St.has g.s x
    · rw [if_pos hx]
      cases hk : Tx.look (g.t i) x with
      | some s => exact h
      | none =>
        show Inv K (if 200 ≤ (g.t i).length then _ else _ : Eng × (Int × Int) × Int).1
        by_cases hl : 200 ≤ (g.t i).length
        · rw [if_pos hl]; exact h
        · rw [if_neg hl]
          cases hb : behind g.p i (writer (St.at_ g.s x)) with
          | none => exact closed_inv h hi.2.1
          | some q => exact readTo_inv h hi.2.1 hx (by omega) hx64 (behind_more h.ps hb).1
    · rw [if_neg hx]; exact h
theorem write_inv {K : Int} {g : Eng} (h : Inv K g) {id x k n : Int} (hx : St.i64p x) (hk : St.i64p k) (hn : St.i64p n) : Inv K (write g id x k n).1 := by
  unfold write
  cases hL : liveAt g id with
  | none => exact h
  | some i =>
    have hi := liveAt_some hL
    show Inv K (if St.has g.s x then _ else _ : Eng × Int).1
    by_cases hx' : St.has g.s x
    · rw [if_pos hx']
      by_cases he : Tx.addE (g.t i) ⟨x, k, n, true⟩ = 0
      · rw [if_pos he]
        obtain ⟨⟨_, _, hr⟩, hl⟩ := add_ok he
        refine setT_inv h (by simp; omega) fun s hs => ?_
        rcases List.mem_append.1 hs with hs | hs
        · exact h.ts i (.inl hi.2.1) s hs
        · simp at hs
          subst hs
          exact ⟨hx', hr, hx, hk, hn⟩
      · rw [if_neg he]; exact h
    · rw [if_neg hx']; exact h
theorem back_inv {K : Int} {g : Eng} (h : Inv K g) {id to : Int} : Inv K (back g id to).1 := by
  unfold back
  cases hL : liveAt g id with
  | none => exact h
  | some i =>
    have hi := liveAt_some hL
    show Inv K (if 0 ≤ to ∧ to ≤ ((g.t i).length : Int) then _ else _ : Eng × Int).1
    split
    · refine setT_inv h ?_ fun s hs => h.ts i (.inl hi.2.1) s (Tx.mem_backL hs)
      have := Tx.backL_len (g.t i) to.toNat
      have := h.tl i (.inl hi.2.1)
      omega
    · exact h
theorem abort_inv {K : Int} {g : Eng} (h : Inv K g) {id : Int} : Inv K (abort g id).1 := by
  unfold abort
  cases hL : liveAt g id with
  | none => exact h
  | some i => exact closed_inv h (liveAt_some hL).2.1
theorem commits_inv {K : Int} {g : Eng} (h : Inv K g) (hK : K ≤ 1000000) {id : Int} : Inv (K + 1) (commit g id).1 := by
  unfold commit
  cases hL : liveAt g id with
  | none => exact h.mono (by omega)
  | some i =>
    have hi := liveAt_some hL
    show Inv (K + 1) (match behind g.p i (aheadAll g.s i (Tx.writesL (g.t i))) with | none => _ | some q => _ : Eng × Int).1
    cases hb : behind g.p i (aheadAll g.s i (Tx.writesL (g.t i))) with
    | none => exact (closed_inv h hi.2.1).mono (by omega)
    | some q => exact gather_inv (commit_inv h hK hi.2.1 (behind_more h.ps hb).1)
theorem begin_inv {K : Int} {g : Eng} (h : Inv K g) : Inv (K + 1) (begin g).1 := by
  unfold begin
  cases hf : Po.ff g.p with
  | none => exact h.mono (by omega)
  | some s => exact begun_inv h hf
theorem act_inv {K : Int} {g : Eng} (h : Inv K g) (hK : K ≤ 1000000) {a : Act} (ha : a.ok) : Inv (K + 1) (act g a).1 := by
  unfold act
  split
  · exact (read_inv h ha.x).mono (by omega)
  split
  · exact (write_inv h ha.x ha.k ha.n).mono (by omega)
  split
  · exact commits_inv h hK
  split
  · exact (abort_inv h).mono (by omega)
  split
  · exact (back_inv h).mono (by omega)
  · exact begin_inv h
theorem new_inv {n vars : Int} (h : 1 ≤ n ∧ n ≤ 32) (hv : 0 ≤ vars ∧ vars ≤ 64) : Inv 0 (new n vars) := by
  have hn : St.newL vars = List.replicate vars.toNat St.fresh := by
    unfold St.newL St.newIs
    rw [if_pos (by simp; omega)]
  have hm : ∀ v ∈ (new n vars).s, v = St.fresh := fun v hv => by
    have hv : v ∈ St.newL vars := hv
    rw [hn] at hv
    exact List.eq_of_mem_replicate hv
  have hnt : ∀ i, ¬ Po.tk (Po.newP n) i := fun i hi => by simp [Po.tk, Po.newP] at hi
  refine ⟨Po.new_sound h, Int.le_refl _, ⟨Int.le_refl _, Int.le_refl _⟩, ?_, ?_, ?_, ?_, fun i hi => absurd hi (hnt i), fun i hi => absurd hi (hnt i), fun i _ => rfl, ?_, fun e he => absurd he List.not_mem_nil⟩
  · show (St.newL vars).length ≤ 64
    rw [hn]; simp; omega
  · intro v hv; rw [hm v hv]; exact ⟨St.fresh_ok, rfl⟩
  · intro v hv; rw [hm v hv]; exact .inl rfl
  · intro v hv i hi; rw [hm v hv] at hi; simp [St.fresh] at hi
  · show ((0 : Nat) : Int) + (Sm.count (0 ||| 0) : Nat) = 0
    simp [Sm.count, Sm.items_zero]
end Go.Proofs.YtfdfiiocccafkaaGreatDoor.En
namespace Go.Proofs.YtfdfiiocccafkaaGreatDoor.En
open Mm Od
abbrev Now := List (Int × Int)
def fits (now : Now) (e : Ent) : Prop := ∀ r ∈ e.rd, now[r.x.toNat]? = some (r.k, r.n)
def sets (now : Now) (l : List Tx.Sp) : Now := l.foldl (fun now w => now.set w.x.toNat (w.k, w.n)) now
/-- done one by one. -/
def Rep : Now → List Ent → Now → Prop
  | now, [], out => now = out
  | now, e :: l, out => fits now e ∧ Rep (sets now e.wr) l out
theorem rep_append : ∀ (l k : List Ent) (a c : Now), Rep a (l ++ k) c ↔ ∃ b, Rep a l b ∧ Rep b k c
  | [], k, a, c => ⟨fun h => ⟨a, rfl, h⟩, fun ⟨b, h1, h2⟩ => by cases h1; exact h2⟩
  | e :: l, k, a, c => by
    show (_ ∧ Rep _ (l ++ k) c) ↔ ∃ b, (_ ∧ Rep _ l b) ∧ _
    rw [rep_append l k]
    constructor
    · rintro ⟨h, b, h1, h2⟩; exact ⟨b, ⟨h, h1⟩, h2⟩
    · rintro ⟨b, ⟨h, h1⟩, h2⟩; exact ⟨h, b, h1, h2⟩
theorem sets_get {x : Nat} : ∀ (l : List Tx.Sp) (now : Now), (∀ w ∈ l, w.x.toNat ≠ x) → (sets now l)[x]? = now[x]?
  | [], now, _ => rfl
  | w :: l, now, h => by
    show (sets (now.set w.x.toNat (w.k, w.n)) l)[x]? = _
    rw [sets_get l _ (fun u hu => h u (by simp [hu])), List.getElem?_set_ne (h w (by simp))]
theorem rep_get {x : Nat} : ∀ (l : List Ent) (a c : Now), Rep a l c → (∀ e ∈ l, ∀ w ∈ e.wr, w.x.toNat ≠ x) → c[x]? = a[x]?
  | [], a, c, h, _ => by cases h; rfl
  | e :: l, a, c, h, hx => by
    rw [rep_get l _ c h.2 (fun u hu => hx u (by simp [hu])), sets_get _ _ (hx e (by simp))]
theorem sets_set {x : Nat} {v : Int × Int} : ∀ (l : List Tx.Sp) (now : Now), (∀ w ∈ l, w.x.toNat ≠ x) → sets (now.set x v) l = (sets now l).set x v
  | [], now, _ => rfl
  | w :: l, now, h => by
    show sets ((now.set x v).set w.x.toNat (w.k, w.n)) l = (sets (now.set w.x.toNat (w.k, w.n)) l).set x v
    rw [List.set_comm _ _ (fun e => h w (by simp) e.symm), sets_set l _ (fun u hu => h u (by simp [hu]))]
theorem rep_set {x : Nat} {v : Int × Int} : ∀ (l : List Ent) (a c : Now), Rep a l c → (∀ e ∈ l, (∀ r ∈ e.rd, r.x.toNat ≠ x) ∧ ∀ w ∈ e.wr, w.x.toNat ≠ x) → Rep (a.set x v) l (c.set x v)
  | [], a, c, h, _ => by cases h; rfl
  | e :: l, a, c, h, hx => by
    refine ⟨fun r hr => ?_, ?_⟩
    · rw [List.getElem?_set_ne (fun e' => (hx e (by simp)).1 r hr e'.symm)]; exact h.1 r hr
    · rw [sets_set _ _ (hx e (by simp)).2]
      exact rep_set l _ c h.2 (fun u hu => hx u (by simp [hu]))
theorem rep_sets : ∀ (W : List Tx.Sp) (l : List Ent) (a c : Now), Rep a l c → (∀ e ∈ l, ∀ w ∈ W, (∀ r ∈ e.rd, r.x.toNat ≠ w.x.toNat) ∧ ∀ u ∈ e.wr, u.x.toNat ≠ w.x.toNat) → Rep (sets a W) l (sets c W)
  | [], l, a, c, h, _ => h
  | w :: W, l, a, c, h, hx => rep_sets W l _ _ (rep_set l a c h (fun e he => hx e he w (by simp))) (fun e he u hu => hx e he u (by simp [hu]))
theorem rep_congr {L : List Nat} {f h : Nat → Ent} : ∀ {a c : Now}, (∀ i ∈ L, (f i).rd = (h i).rd ∧ (f i).wr = (h i).wr) → Rep a (L.map f) c → Rep a (L.map h) c := by
  induction L with
  | nil => intro a c _ hr; exact hr
  | cons i L ih =>
    intro a c he hr
    obtain ⟨e1, e2⟩ := he i (by simp)
    refine ⟨?_, ?_⟩
    · have := hr.1; unfold fits at this ⊢; rw [← e1]; exact this
    · rw [← e2]; exact ih (fun j hj => he j (by simp [hj])) hr.2
/-- an order by the graph. -/
structure Lin (p : Pl) (L : List Nat) : Prop where
  nodup : L.Nodup
  mem : ∀ i, i ∈ L ↔ Po.tk p i
  ord : L.Pairwise fun a b => ¬ E p.m b a
theorem lin_way {p : Pl} (hs : Po.Sound p) {L : List Nat} (h : Lin p L) {a b : Nat} (w : W (E p.m) a b) : ∀ i j : Nat, L[i]? = some a → L[j]? = some b → i < j := by
  have one : ∀ {a b : Nat}, E p.m a b → ∀ i j : Nat, L[i]? = some a → L[j]? = some b → i < j := by
    intro a b he i j hi hj
    obtain ⟨hi', ei⟩ := List.getElem?_eq_some_iff.1 hi
    obtain ⟨hj', ej⟩ := List.getElem?_eq_some_iff.1 hj
    rcases Nat.lt_trichotomy i j with h1 | h1 | h1
    · exact h1
    · subst h1
      have : a = b := by rw [← ei, ← ej]
      subst this
      have := hs.sorted.2 a a he
      omega
    · have := (List.pairwise_iff_getElem.1 h.ord) j i hj' hi' h1
      rw [ei, ej] at this
      exact absurd he this
  induction w with
  | one he => exact one he
  | more _ he ih =>
    intro i j hi hj
    rename_i c d _
    have hc := (h.mem c).2 (hs.edges c d he).1
    obtain ⟨k, hk⟩ := List.mem_iff_getElem?.1 hc
    exact Nat.lt_trans (ih i k hi hk) (one he k j hk hj)
theorem lin_split {p : Pl} (hs : Po.Sound p) {L : List Nat} (h : Lin p L) {i : Nat} (hi : Po.tk p i) : ∃ A B, L = A ++ i :: B ∧ i ∉ A ∧ i ∉ B ∧ ∀ b ∈ B, ¬ W (E p.m) b i := by
  obtain ⟨A, B, rfl⟩ := List.append_of_mem ((h.mem i).2 hi)
  have hn := h.nodup
  rw [List.nodup_append] at hn
  refine ⟨A, B, rfl, fun ha => hn.2.2 i ha i (by simp) rfl, fun hb => (List.nodup_cons.1 hn.2.1).1 hb, fun b hb w => ?_⟩
  obtain ⟨k, hk⟩ := List.mem_iff_getElem?.1 hb
  have h1 : (A ++ i :: B)[A.length + 1 + k]? = some b := by
    rw [List.getElem?_append_right (by omega), show A.length + 1 + k - A.length = k + 1 by omega, List.getElem?_cons_succ]; exact hk
  have h2 : (A ++ i :: B)[A.length]? = some i := by
    rw [List.getElem?_append_right (by omega), Nat.sub_self]; rfl
  have := lin_way hs h w _ _ h1 h2
  omega
theorem lin_more {p q : Pl} (m : More p q) {L : List Nat} (h : Lin q L) : Lin p L :=
  ⟨h.nodup, fun i => (h.mem i).trans (m.tk i), h.ord.imp fun hn he => hn (m.edge _ _ he)⟩
def start (n : Nat) : Now := List.replicate n (1, 0)
structure Leg (g : Eng) : Prop where
  A : ∀ (x : Nat) v j, g.s[x]? = some v → Po.tk g.p j → g.c j = true → (∃ w ∈ Tx.writesL (g.t j), w.x = (x : Nat)) → ∃ i : Nat, v.wr = i ∧ (j = i ∨ W (E g.p.m) j i)
  B : ∀ (x : Nat) v j, g.s[x]? = some v → Po.tk g.p j → (∃ r ∈ Tx.readsL (g.t j), r.x = (x : Nat)) → v.m.testBit j = true ∨ ∃ i : Nat, v.wr = i ∧ (j = i ∨ W (E g.p.m) j i)
  R : ∀ L, Lin g.p L → Rep (start g.s.length) (g.log ++ L.map (entry g)) (vals g.s)
theorem entry_rd (g : Eng) (i : Nat) : (entry g i).rd = Tx.readsL (g.t i) := rfl
theorem entry_wr (g : Eng) (i : Nat) : (entry g i).wr = if g.c i = true then Tx.writesL (g.t i) else [] := rfl
/- one that goes -/
theorem way_cut {p : Pl} (hs : Po.Sound p) {s : Nat} (h32 : s < 32) (hE : ∀ i, ¬ E p.m i s) {a b : Nat} (ha : a ≠ s) (w : W (E p.m) a b) : W (E (Mm.cut p.m s)) a b ∧ b ≠ s := by
  have nE : ∀ {c d : Nat}, E p.m c d → d ≠ s := fun {c d} he e => by subst e; exact hE c he
  induction w with
  | one he =>
    have hb := nE he
    exact ⟨.one ((cut_E hs.mok h32 _ _).2 ⟨he, ha, hb⟩), hb⟩
  | more _ he ih =>
    have hb := nE he
    exact ⟨.more ih.1 ((cut_E hs.mok h32 _ _).2 ⟨he, ih.2, hb⟩), hb⟩
theorem goes_leg {K : Int} {g : Eng} (h : Inv K g) (l : Leg g) {s : Nat} (hn : Po.next g.p = some s) : Leg (goes g s) := by
  obtain ⟨hs, hd, hE⟩ := Po.next_spec hn
  have htk := Po.going_tk h.ps hs hd
  have old : ∀ {x : Nat} {v : St.Vr}, (goes g s).s[x]? = some v → ∃ u, g.s[x]? = some u ∧ v = St.dr (s : Nat) u := by
    intro x v hv
    have hv : (g.s.map (St.dr (s : Nat)))[x]? = some v := hv
    rw [List.getElem?_map] at hv
    cases e : g.s[x]? with
    | none => rw [e] at hv; cases hv
    | some u => rw [e] at hv; exact ⟨u, rfl, (Option.some.inj hv).symm⟩
  have stay : ∀ {u : St.Vr} {i j : Nat}, u.wr = (i : Nat) → j ≠ s → (j = i ∨ W (E g.p.m) j i) → (St.dr (s : Nat) u).wr = (i : Nat) ∧ (j = i ∨ W (E (Mm.cut g.p.m s)) j i) := by
    intro u i j hw hj hx
    have : i ≠ s ∧ (j = i ∨ W (E (Mm.cut g.p.m s)) j i) := by
      rcases hx with rfl | hx
      · exact ⟨hj, .inl rfl⟩
      · have := way_cut h.ps hs hE hj hx
        exact ⟨this.2, .inr this.1⟩
    refine ⟨?_, this.2⟩
    show (if u.wr = (s : Nat) then (-1 : Int) else u.wr) = (i : Nat)
    rw [if_neg (by rw [hw]; have := this.1; omega)]; exact hw
  refine ⟨?_, ?_, ?_⟩
  · intro x v j hv hj hc hw
    obtain ⟨u, hu, rfl⟩ := old hv
    obtain ⟨hj, hne⟩ := (htk j).1 hj
    obtain ⟨i, h1, h2⟩ := l.A x u j hu hj hc hw
    exact ⟨i, stay h1 hne h2⟩
  · intro x v j hv hj hr
    obtain ⟨u, hu, rfl⟩ := old hv
    obtain ⟨hj, hne⟩ := (htk j).1 hj
    rcases l.B x u j hu hj hr with h1 | ⟨i, h1, h2⟩
    · left
      show (Sm.less u.m (s : Nat)).testBit j = true
      rw [Sm.less_test _ _ (h.vok u (List.mem_of_getElem? hu)).1.2.2.2.2, h1]
      simp; omega
    · exact .inr ⟨i, stay h1 hne h2⟩
  · intro L hL
    have hL' : Lin g.p (s :: L) := by
      refine ⟨List.nodup_cons.2 ⟨fun hm => ((htk s).1 ((hL.mem s).1 hm)).2 rfl, hL.nodup⟩, fun i => ?_, List.pairwise_cons.2 ⟨fun b _ => hE b, ?_⟩⟩
      · rw [List.mem_cons, hL.mem i]
        show i = s ∨ Po.tk (Po.going g.p s) i ↔ _
        rw [htk i]
        constructor
        · rintro (rfl | h1)
          · exact .inr hd
          · exact h1.1
        · intro h1
          by_cases e : i = s
          · exact .inl e
          · exact .inr ⟨h1, e⟩
      · refine hL.ord.imp_of_mem fun {a b} ha hb hn he => hn ?_
        exact (cut_E h.ps.mok hs _ _).2 ⟨he, ((htk b).1 ((hL.mem b).1 hb)).2, ((htk a).1 ((hL.mem a).1 ha)).2⟩
    have := l.R _ hL'
    rw [List.map_cons] at this
    show Rep (start (St.dropL g.s (s : Nat)).length) ((g.log ++ [entry g s]) ++ L.map (entry (goes g s))) (vals (St.dropL g.s (s : Nat)))
    rw [vals_drop, show (St.dropL g.s (s : Nat)).length = g.s.length by simp [St.dropL], List.append_assoc]
    have e : L.map (entry (goes g s)) = L.map (entry g) := List.map_congr_left fun i hi => entry_goes h.ps.done64 hs ((htk i).1 ((hL.mem i).1 hi)).2
    rw [e]; exact this
theorem gather_leg {K : Int} {g : Eng} (h : Inv K g) (l : Leg g) : Leg (gather g) :=
  (gather_ind (fun g => Inv K g ∧ Leg g) (fun _ _ hP _ hn => ⟨goes_inv hP.1 hn, goes_leg hP.1 hP.2 hn⟩) g h.ps.done64 ⟨h, l⟩).2
/- one that is over -/
theorem shut_leg {K : Int} {g : Eng} (h : Inv K g) (l : Leg g) {i : Nat} (hi : g.p.live.testBit i = true) : Leg (shut g i false) := by
  have htk := Po.ended_tk h.ps (has_live h.ps hi)
  have hci := h.liv i hi
  have hc : ∀ j, ud g.c i false j = g.c j := fun j => by
    by_cases e : j = i
    · rw [e, ud_same, hci]
    · rw [ud_other e]
  refine ⟨fun x v j hv hj hcj => l.A x v j hv ((htk j).1 hj) (by rw [← hc j]; exact hcj), fun x v j hv hj => l.B x v j hv ((htk j).1 hj), fun L hL => ?_⟩
  have hL' : Lin g.p L := ⟨hL.nodup, fun j => (hL.mem j).trans (htk j), hL.ord⟩
  have := l.R L hL'
  obtain ⟨b, h1, h2⟩ := (rep_append _ _ _ _).1 this
  refine (rep_append _ _ _ _).2 ⟨b, h1, rep_congr (f := entry g) (fun j _ => ⟨rfl, ?_⟩) h2⟩
  rw [entry_wr, entry_wr, show (shut g i false).c j = g.c j from hc j]; rfl
theorem closed_leg {K : Int} {g : Eng} (h : Inv K g) (l : Leg g) {i : Nat} (hi : g.p.live.testBit i = true) : Leg (closed g i false) := gather_leg (shut_inv h hi) (shut_leg h l hi)
/- a beginning -/
theorem rep_skip {s : Nat} {f : Nat → Ent} (h1 : (f s).rd = []) (h2 : (f s).wr = []) : ∀ (L : List Nat) (a c : Now), Rep a ((L.filter (· ≠ s)).map f) c → Rep a (L.map f) c
  | [], a, c, h => h
  | i :: L, a, c, h => by
    by_cases e : i = s
    · subst e
      rw [List.filter_cons_of_neg (by simp)] at h
      refine ⟨fun r hr => ?_, ?_⟩
      · rw [h1] at hr; exact absurd hr List.not_mem_nil
      · rw [h2]; exact rep_skip h1 h2 L a c h
    · rw [List.filter_cons_of_pos (by simp [e])] at h
      exact ⟨h.1, rep_skip h1 h2 L _ c h.2⟩
theorem begun_leg {K : Int} {g : Eng} (h : Inv K g) (l : Leg g) {s : Nat} (hf : Po.ff g.p = some s) : Leg (begun g s) := by
  obtain ⟨hs, hfr, _⟩ := Po.ff_spec hf
  obtain ⟨hsz, hnt⟩ := Po.freeAt_tk hfr
  have htk := fun j => Po.begun_tk (p := g.p) hs j
  have hI := Po.begun_inv h.ps hs hnt
  have ne : ∀ j, Po.tk g.p j → j ≠ s := fun j hj e => hnt (e ▸ hj)
  have up : ∀ {j i : Nat}, (j = i ∨ W (E g.p.m) j i) → (j = i ∨ W (E (Po.begun g.p s).m) j i) := fun hx => hx.imp id fun w => w.mono hI.old
  have hts : (begun g s).t s = [] := ud_same _ _ _
  refine ⟨?_, ?_, ?_⟩
  · intro x v j hv hj hc hw
    rcases (htk j).1 hj with hj | rfl
    · have e1 : (begun g s).t j = g.t j := ud_other (ne j hj)
      have e2 : (begun g s).c j = g.c j := ud_other (ne j hj)
      rw [e1] at hw; rw [e2] at hc
      obtain ⟨i, h1, h2⟩ := l.A x v j hv hj hc hw
      exact ⟨i, h1, up h2⟩
    · have : (begun g j).c j = false := ud_same _ _ _
      rw [this] at hc; cases hc
  · intro x v j hv hj hr
    rcases (htk j).1 hj with hj | rfl
    · have e1 : (begun g s).t j = g.t j := ud_other (ne j hj)
      rw [e1] at hr
      rcases l.B x v j hv hj hr with h1 | ⟨i, h1, h2⟩
      · exact .inl h1
      · exact .inr ⟨i, h1, up h2⟩
    · rw [hts] at hr
      obtain ⟨r, hr, _⟩ := hr
      exact absurd (reads_mem hr).1 List.not_mem_nil
  · intro L hL
    have hL' : Lin g.p (L.filter (· ≠ s)) := by
      refine ⟨hL.nodup.filter _, fun i => ?_, (hL.ord.filter _).imp fun hn he => hn (hI.old _ _ he)⟩
      rw [List.mem_filter, hL.mem i]
      show Po.tk (Po.begun g.p s) i ∧ _ ↔ _
      rw [htk i]
      simp
      constructor
      · rintro ⟨h1 | h1, h2⟩
        · exact h1
        · exact absurd h1 h2
      · exact fun h1 => ⟨.inl h1, ne i h1⟩
    obtain ⟨b, h1, h2⟩ := (rep_append _ _ _ _).1 (l.R _ hL')
    refine (rep_append _ _ _ _).2 ⟨b, h1, rep_skip (s := s) ?_ ?_ L _ _ (rep_congr (fun j hj => ?_) h2)⟩
    · rw [entry_rd, hts]; rfl
    · rw [entry_wr, hts]; split <;> rfl
    · have hj : j ≠ s := by simpa using (List.mem_filter.1 hj).2
      rw [entry_rd, entry_rd, entry_wr, entry_wr, show (begun g s).t j = g.t j from ud_other hj, show (begun g s).c j = g.c j from ud_other hj]
      exact ⟨rfl, rfl⟩
/- a step that is not written to the outside -/
theorem setT_leg {g : Eng} (l : Leg g) {i : Nat} (hc : g.c i = false) {t : List Tx.Sp} (hr : Tx.readsL t = Tx.readsL (g.t i)) : Leg (setT g i t) := by
  have hrd : ∀ j, Tx.readsL ((setT g i t).t j) = Tx.readsL (g.t j) := fun j => by
    show Tx.readsL (ud g.t i t j) = _
    by_cases e : j = i
    · rw [e, ud_same, hr]
    · rw [ud_other e]
  refine ⟨?_, ?_, ?_⟩
  · intro x v j hv hj hcj hw
    have e : j ≠ i := fun e => by
      have hcj : g.c j = true := hcj
      rw [e, hc] at hcj; cases hcj
    rw [show (setT g i t).t j = g.t j from ud_other e] at hw
    exact l.A x v j hv hj hcj hw
  · intro x v j hv hj hw
    rw [hrd j] at hw
    exact l.B x v j hv hj hw
  · intro L hL
    obtain ⟨b, h1, h2⟩ := (rep_append _ _ _ _).1 (l.R L hL)
    refine (rep_append _ _ _ _).2 ⟨b, h1, rep_congr (fun j _ => ⟨?_, ?_⟩) h2⟩
    · rw [entry_rd, entry_rd, hrd]
    · rw [entry_wr, entry_wr]
      show (if g.c j = true then _ else _) = (if g.c j = true then Tx.writesL (ud g.t i t j) else _)
      by_cases e : j = i
      · rw [e, hc]; rfl
      · rw [ud_other e]
/- a read -/
theorem reads_snoc {t : List Tx.Sp} {s r : Tx.Sp} (h : r ∈ Tx.readsL (t ++ [s])) : r ∈ Tx.readsL t ∨ r = s := by
  obtain ⟨x, hx, e⟩ := Tx.mem_rise h
  rw [Tx.rd1_append] at e
  cases h1 : Tx.rd1 t (x : Nat) with
  | some u =>
    rw [h1] at e
    left
    unfold Tx.readsL Tx.rise
    refine List.mem_filterMap.2 ⟨x, by simpa using hx, ?_⟩
    rw [h1]; exact e
  | none =>
    rw [h1] at e
    have := (Tx.rd1_some (L := [s]) e).1
    right
    simpa using this
theorem readTo_leg {K : Int} {g : Eng} (h : Inv K g) (l : Leg g) {i : Nat} (hi : g.p.live.testBit i = true) {x : Int} (hx : St.has g.s x) {q : Pl} (hb : behind g.p i (writer (St.at_ g.s x)) = some q) : Leg (readTo g i x q) := by
  obtain ⟨m, hE⟩ := behind_more h.ps hb
  have h32 := h.ps.tk32 (.inl hi)
  have hmk := markL_eq hx h32
  have hci := h.liv i hi
  have hx0 : 0 ≤ x := hx.1
  have hxl : x.toNat < g.s.length := by unfold St.has at hx; omega
  have up : ∀ {j k : Nat}, (j = k ∨ W (E g.p.m) j k) → (j = k ∨ W (E q.m) j k) := fun hx => hx.imp id fun w => m.way w
  have old : ∀ {y : Nat} {v : St.Vr}, (readTo g i x q).s[y]? = some v → ∃ u, g.s[y]? = some u ∧ v.wr = u.wr ∧ (∀ j, u.m.testBit j = true → v.m.testBit j = true) ∧ (y = x.toNat → v.m.testBit i = true) := by
    intro y v hv
    have hv : (St.markL g.s x (i : Nat))[y]? = some v := hv
    rw [hmk] at hv
    by_cases e : y = x.toNat
    · subst e
      rw [List.getElem?_set_self hxl] at hv
      have hv := Option.some.inj hv
      subst hv
      refine ⟨_, at_get hx, rfl, fun j hj => ?_, fun _ => ?_⟩
      · show (Sm.add _ (i : Nat)).testBit j = true
        rw [Sm.add_test, hj]; rfl
      · show (Sm.add _ (i : Nat)).testBit i = true
        rw [Sm.add_test]; simp; omega
    · rw [List.getElem?_set_ne (fun x => e x.symm)] at hv
      exact ⟨v, hv, rfl, fun _ h => h, fun x => absurd x e⟩
  refine ⟨?_, ?_, ?_⟩
  · intro y v j hv hj hc hw
    obtain ⟨u, hu, e, _, _⟩ := old hv
    have hc : g.c j = true := hc
    have ne : j ≠ i := fun e => by rw [e, hci] at hc; cases hc
    rw [show (readTo g i x q).t j = g.t j from ud_other ne] at hw
    obtain ⟨k, h1, h2⟩ := l.A y u j hu ((m.tk j).1 hj) hc hw
    exact ⟨k, by rw [e]; exact h1, up h2⟩
  · intro y v j hv hj hr
    obtain ⟨u, hu, e, h3, h4⟩ := old hv
    have from_old : (∃ r ∈ Tx.readsL (g.t j), r.x = (y : Nat)) → v.m.testBit j = true ∨ ∃ k : Nat, v.wr = k ∧ (j = k ∨ W (E q.m) j k) := fun hr => by
      rcases l.B y u j hu ((m.tk j).1 hj) hr with h1 | ⟨k, h1, h2⟩
      · exact .inl (h3 j h1)
      · exact .inr ⟨k, by rw [e]; exact h1, up h2⟩
    by_cases ne : j = i
    · subst ne
      rw [show (readTo g j x q).t j = g.t j ++ [⟨x, (St.at_ g.s x).k, (St.at_ g.s x).n, false⟩] from ud_same _ _ _] at hr
      obtain ⟨r, hr, hy⟩ := hr
      rcases reads_snoc hr with hr | rfl
      · exact from_old ⟨r, hr, hy⟩
      · have hy : x = (y : Nat) := hy
        exact .inl (h4 (by omega))
    · rw [show (readTo g i x q).t j = g.t j from ud_other ne] at hr
      exact from_old hr
  · intro L hL
    have hL : Lin q L := hL
    obtain ⟨A, B, rfl, hA, hB, hway⟩ := lin_split m.sound hL ((m.tk i).2 (.inl hi))
    have := l.R _ (lin_more m hL)
    rw [List.map_append, List.map_cons, ← List.append_assoc] at this ⊢
    obtain ⟨b, h1, h2, h3⟩ := (rep_append _ _ _ _).1 this
    have hev : vals (readTo g i x q).s = vals g.s := by
      show vals (St.markL g.s x (i : Nat)) = _
      rw [hmk]
      unfold vals
      rw [List.map_set]
      apply List.ext_getElem?
      intro y
      by_cases e : y = x.toNat
      · subst e
        rw [List.getElem?_set_self (by simp; exact hxl), List.getElem?_map, at_get hx]; rfl
      · rw [List.getElem?_set_ne (fun x => e x.symm)]
    have hlen : (readTo g i x q).s.length = g.s.length := at_len _ _ _
    rw [hev, hlen]
    have same : ∀ (M : List Nat), i ∉ M → ∀ j ∈ M, (entry g j).rd = (entry (readTo g i x q) j).rd ∧ (entry g j).wr = (entry (readTo g i x q) j).wr := fun M hM j hj => by
      have ne : j ≠ i := fun e => hM (e ▸ hj)
      rw [entry_rd, entry_rd, entry_wr, entry_wr, show (readTo g i x q).t j = g.t j from ud_other ne]
      exact ⟨rfl, rfl⟩
    have hwi : (entry g i).wr = [] := by rw [entry_wr, hci]; rfl
    have hwi' : (entry (readTo g i x q) i).wr = [] := by rw [entry_wr, show (readTo g i x q).c i = false from hci]; rfl
    obtain ⟨b0, h10, h11⟩ := (rep_append _ _ _ _).1 h1
    refine (rep_append _ _ _ _).2 ⟨b, (rep_append _ _ _ _).2 ⟨b0, h10, rep_congr (same A hA) h11⟩, ?_, ?_⟩
    · intro r hr
      rw [entry_rd, show (readTo g i x q).t i = g.t i ++ [⟨x, (St.at_ g.s x).k, (St.at_ g.s x).n, false⟩] from ud_same _ _ _] at hr
      rcases reads_snoc hr with hr | rfl
      · exact h2 r hr
      · show b[x.toNat]? = some ((St.at_ g.s x).k, (St.at_ g.s x).n)
        rw [hwi] at h3
        have hfin := rep_get (x := x.toNat) _ b (vals g.s) h3 (fun e he w hw ew => by
          obtain ⟨j, hj, rfl⟩ := List.mem_map.1 he
          rw [entry_wr] at hw
          cases hcj : g.c j with
          | false => rw [hcj] at hw; exact absurd hw (by simp)
          | true =>
            rw [hcj, if_pos rfl] at hw
            have hjt : Po.tk g.p j := (m.tk j).1 ((hL.mem j).1 (by simp [hj]))
            have hwx := (writes_mem hw).2.2
            obtain ⟨k, hk, hp⟩ := l.A x.toNat _ j (at_get hx) hjt hcj ⟨w, hw, by omega⟩
            have hkE : E q.m k i := by
              obtain ⟨z, hz, he⟩ := hE (k : Nat) (by unfold writer; rw [hk, if_neg (by omega)]; simp)
              have : z = k := by omega
              rw [← this]; exact he
            rcases hp with rfl | hp
            · exact hway j hj (.one hkE)
            · exact hway j hj (.more (m.way hp) hkE))
        rw [← hfin]
        unfold vals
        rw [List.getElem?_map, at_get hx]; rfl
    · rw [hwi']; rw [hwi] at h3
      exact rep_congr (same B hB) h3
/- a commit -/
theorem vals_puts (ver : Int) {i : Nat} (hi : i < 32) : ∀ (W : List Tx.Sp) (S : List St.Vr), (∀ w ∈ W, St.has S w.x ∧ St.right w.k w.n = true) → vals (puts S ver i W) = sets (vals S) W
  | [], S, _ => rfl
  | w :: W, S, h => by
    obtain ⟨hw, hr⟩ := h w (by simp)
    have hp := putL_eq (ver := ver) hw hr hi
    have hl : (St.putL S w.x w.k w.n ver (i : Nat)).length = S.length := by rw [hp]; simp
    show vals (puts (St.putL S w.x w.k w.n ver (i : Nat)) ver i W) = sets ((vals S).set w.x.toNat (w.k, w.n)) W
    rw [vals_puts ver hi W _ (fun u hu => ⟨(has_len hl _).2 (h u (by simp [hu])).1, (h u (by simp [hu])).2⟩), hp]
    unfold vals
    rw [List.map_set]
theorem ahead_writer {S : List St.Vr} {s : Nat} {l : List Tx.Sp} {w : Tx.Sp} (hw : w ∈ l) {k : Nat} (hk : (St.at_ S w.x).wr = (k : Nat)) : ((k : Nat) : Int) ∈ aheadAll S s l := by
  unfold aheadAll
  refine List.mem_flatMap.2 ⟨w, hw, ?_⟩
  unfold aheadOf writer
  rw [hk, if_neg (by omega)]; simp
theorem ahead_reader {S : List St.Vr} {s : Nat} {l : List Tx.Sp} {w : Tx.Sp} (hw : w ∈ l) {k : Nat} (hm : (St.at_ S w.x).m < 18446744073709551616) (hk : (St.at_ S w.x).m.testBit k = true) (hne : k ≠ s) : ((k : Nat) : Int) ∈ aheadAll S s l := by
  unfold aheadAll
  refine List.mem_flatMap.2 ⟨w, hw, ?_⟩
  unfold aheadOf readers
  refine List.mem_append_right _ (List.mem_map.2 ⟨k, Sm.items_mem.2 ⟨?_, ?_⟩, rfl⟩)
  · rcases Nat.lt_or_ge k 64 with h | h
    · exact h
    · rw [Sm.test_big hm h] at hk; cases hk
  · rw [Sm.less_test _ _ hm, hk]; simp; omega
theorem commit_leg {K : Int} {g : Eng} (h : Inv K g) (l : Leg g) {i : Nat} (hi : g.p.live.testBit i = true) {q : Pl} (hb : behind g.p i (aheadAll g.s i (Tx.writesL (g.t i))) = some q) : Leg (shut (wrote g i q) i true) := by
  obtain ⟨m, hE⟩ := behind_more h.ps hb
  have hq : q.live.testBit i = true := by rw [m.live]; exact hi
  have h32 := h.ps.tk32 (.inl hi)
  have htk : ∀ j, Po.tk (Po.ended q (i : Nat)) j ↔ Po.tk g.p j := fun j => (Po.ended_tk m.sound (has_live m.sound hq) j).trans (m.tk j)
  have hci := h.liv i hi
  have hW : ∀ w ∈ Tx.writesL (g.t i), St.has g.s w.x ∧ St.right w.k w.n = true := fun w hw => by
    have := h.ts i (.inl hi) w (writes_mem hw).1
    exact ⟨this.1, this.2.1⟩
  have hE' : ∀ k : Nat, ((k : Nat) : Int) ∈ aheadAll g.s i (Tx.writesL (g.t i)) → E q.m k i := fun k hk => by
    obtain ⟨z, hz, he⟩ := hE _ hk
    have : z = k := by omega
    rw [← this]; exact he
  -- who wrote, or read, a variable that is written stands ahead
  have wA : ∀ w ∈ Tx.writesL (g.t i), ∀ j, Po.tk g.p j → g.c j = true → (∃ u ∈ Tx.writesL (g.t j), u.x = w.x) → W (E q.m) j i := by
    intro w hw j hj hc hu
    have hx := (hW w hw).1
    have hx0 := hx.1
    obtain ⟨k, hk, hp⟩ := l.A w.x.toNat _ j (at_get hx) hj hc (by obtain ⟨u, h1, h2⟩ := hu; exact ⟨u, h1, by omega⟩)
    have := hE' k (ahead_writer hw hk)
    rcases hp with rfl | hp
    · exact .one this
    · exact .more (m.way hp) this
  have wB : ∀ w ∈ Tx.writesL (g.t i), ∀ j, Po.tk g.p j → j ≠ i → (∃ u ∈ Tx.readsL (g.t j), u.x = w.x) → W (E q.m) j i := by
    intro w hw j hj hne hu
    have hx := (hW w hw).1
    have hx0 := hx.1
    rcases l.B w.x.toNat _ j (at_get hx) hj (by obtain ⟨u, h1, h2⟩ := hu; exact ⟨u, h1, by omega⟩) with h1 | ⟨k, hk, hp⟩
    · exact .one (hE' j (ahead_reader hw (h.vok _ (get_mem hx)).1.2.2.2.2 h1 hne))
    · have := hE' k (ahead_writer hw hk)
      rcases hp with rfl | hp
      · exact .one this
      · exact .more (m.way hp) this
  have up : ∀ {j k : Nat}, (j = k ∨ W (E g.p.m) j k) → (j = k ∨ W (E q.m) j k) := fun hx => hx.imp id fun w => m.way w
  have get : ∀ {x : Nat} {v : St.Vr}, (shut (wrote g i q) i true).s[x]? = some v → (∃ w ∈ Tx.writesL (g.t i), w.x = (x : Nat) ∧ v = ⟨w.k, w.n, g.n + 1, (i : Nat), 0⟩) ∨ ((∀ w ∈ Tx.writesL (g.t i), w.x ≠ (x : Nat)) ∧ g.s[x]? = some v) := by
    intro x v hv
    have hv : (puts g.s (g.n + 1) i (Tx.writesL (g.t i)))[x]? = some v := hv
    rcases puts_get (g.n + 1) h32 x _ g.s hW with ⟨w, hw, e, e2⟩ | ⟨h1, e⟩
    · rw [e2] at hv; exact .inl ⟨w, hw, e, (Option.some.inj hv).symm⟩
    · rw [e] at hv; exact .inr ⟨h1, hv⟩
  refine ⟨?_, ?_, ?_⟩
  · intro x v j hv hj hc hw
    have hj := (htk j).1 hj
    have hc : ud g.c i true j = true := hc
    have hw : ∃ w ∈ Tx.writesL (g.t j), w.x = (x : Nat) := hw
    show ∃ k : Nat, v.wr = k ∧ (j = k ∨ W (E q.m) j k)
    rcases get hv with ⟨w, h1, h2, rfl⟩ | ⟨h1, h2⟩
    · refine ⟨i, rfl, ?_⟩
      by_cases e : j = i
      · exact .inl e
      · rw [ud_other e] at hc
        exact .inr (wA w h1 j hj hc (by obtain ⟨u, h3, h4⟩ := hw; exact ⟨u, h3, by rw [h4, h2]⟩))
    · have e : j ≠ i := fun e => by
        obtain ⟨u, h3, h4⟩ := hw
        rw [e] at h3
        exact h1 u h3 h4
      rw [ud_other e] at hc
      obtain ⟨k, h3, h4⟩ := l.A x v j h2 hj hc hw
      exact ⟨k, h3, up h4⟩
  · intro x v j hv hj hr
    have hj := (htk j).1 hj
    have hr : ∃ w ∈ Tx.readsL (g.t j), w.x = (x : Nat) := hr
    show _ ∨ ∃ k : Nat, v.wr = k ∧ (j = k ∨ W (E q.m) j k)
    rcases get hv with ⟨w, h1, h2, rfl⟩ | ⟨h1, h2⟩
    · refine .inr ⟨i, rfl, ?_⟩
      by_cases e : j = i
      · exact .inl e
      · exact .inr (wB w h1 j hj e (by obtain ⟨u, h3, h4⟩ := hr; exact ⟨u, h3, by rw [h4, h2]⟩))
    · rcases l.B x v j h2 hj hr with h3 | ⟨k, h3, h4⟩
      · exact .inl h3
      · exact .inr ⟨k, h3, up h4⟩
  · intro L hL
    have hL : Lin q L := ⟨hL.nodup, fun j => (hL.mem j).trans (Po.ended_tk m.sound (has_live m.sound hq) j), hL.ord⟩
    obtain ⟨A, B, rfl, hA, hB, hway⟩ := lin_split m.sound hL ((m.tk i).2 (.inl hi))
    have := l.R _ (lin_more m hL)
    rw [List.map_append, List.map_cons, ← List.append_assoc] at this ⊢
    obtain ⟨b, h1, h2, h3⟩ := (rep_append _ _ _ _).1 this
    have hev : vals (shut (wrote g i q) i true).s = sets (vals g.s) (Tx.writesL (g.t i)) := vals_puts (g.n + 1) h32 _ _ hW
    have hlen : (shut (wrote g i q) i true).s.length = g.s.length := puts_len _ _ _ _
    rw [hev, hlen]
    have same : ∀ (M : List Nat), i ∉ M → ∀ j ∈ M, (entry g j).rd = (entry (shut (wrote g i q) i true) j).rd ∧ (entry g j).wr = (entry (shut (wrote g i q) i true) j).wr := fun M hM j hj => by
      have ne : j ≠ i := fun e => hM (e ▸ hj)
      rw [entry_rd, entry_rd, entry_wr, entry_wr, show (shut (wrote g i q) i true).c j = g.c j from ud_other ne]
      exact ⟨rfl, rfl⟩
    have hwi : (entry g i).wr = [] := by rw [entry_wr, hci]; rfl
    have hwi' : (entry (shut (wrote g i q) i true) i).wr = Tx.writesL (g.t i) := by rw [entry_wr, show (shut (wrote g i q) i true).c i = true from ud_same _ _ _]; rfl
    obtain ⟨b0, h10, h11⟩ := (rep_append _ _ _ _).1 h1
    refine (rep_append _ _ _ _).2 ⟨b, (rep_append _ _ _ _).2 ⟨b0, h10, rep_congr (same A hA) h11⟩, h2, ?_⟩
    rw [hwi'] ; rw [hwi] at h3
    refine rep_sets _ _ _ _ (rep_congr (same B hB) h3) ?_
    intro e he w hw
    obtain ⟨j, hj, rfl⟩ := List.mem_map.1 he
    have hjt : Po.tk g.p j := (m.tk j).1 ((hL.mem j).1 (by simp [hj]))
    have ne : j ≠ i := fun e => hB (e ▸ hj)
    have hw0 := (hW w hw).1.1
    refine ⟨fun r hr er => ?_, fun u hu eu => ?_⟩
    · have hr : r ∈ Tx.readsL (g.t j) := hr
      have := (reads_mem hr).2.2
      exact hway j hj (wB w hw j hjt ne ⟨r, hr, by omega⟩)
    · rw [← (same B hB j hj).2, entry_wr] at hu
      cases hcj : g.c j with
      | false => rw [hcj] at hu; exact absurd hu (by simp)
      | true =>
        rw [hcj, if_pos rfl] at hu
        have := (writes_mem hu).2.2
        exact hway j hj (wA w hw j hjt hcj ⟨u, hu, by omega⟩)
/- all calls -/
theorem reads_write (t : List Tx.Sp) (s : Tx.Sp) (h : s.wr = true) : Tx.readsL (t ++ [s]) = Tx.readsL t := Tx.rise_congr fun x _ => by
  rw [Tx.rd1_append]
  have : Tx.rd1 [s] (x : Nat) = none := by unfold Tx.rd1; simp [h]
  rw [this]; simp
theorem act_leg {K : Int} {g : Eng} (h : Inv K g) (hK : K ≤ 1000000) (l : Leg g) {a : Act} : Leg (act g a).1 := by
  have hlive : ∀ {id i}, liveAt g id = some i → g.p.live.testBit i = true := fun hL => (liveAt_some hL).2.1
  unfold act
  split
  · unfold read
    cases hL : liveAt g a.id with
    | none => exact l
    | some i =>
      show Leg (if St.has g.s a.x then _ else _ : Eng × (Int × Int) × Int).1
      by_cases hx : St.has g.s a.x
      · rw [if_pos hx]
        cases hk : Tx.look (g.t i) a.x with
        | some s => exact l
        | none =>
          show Leg (if 200 ≤ (g.t i).length then _ else _ : Eng × (Int × Int) × Int).1
          by_cases hl : 200 ≤ (g.t i).length
          · rw [if_pos hl]; exact l
          · rw [if_neg hl]
            cases hb : behind g.p i (writer (St.at_ g.s a.x)) with
            | none => exact closed_leg h l (hlive hL)
            | some q => exact readTo_leg h l (hlive hL) hx hb
      · rw [if_neg hx]; exact l
  split
  · unfold write
    cases hL : liveAt g a.id with
    | none => exact l
    | some i =>
      show Leg (if St.has g.s a.x then _ else _ : Eng × Int).1
      by_cases hx' : St.has g.s a.x
      · rw [if_pos hx']
        by_cases he : Tx.addE (g.t i) ⟨a.x, a.k, a.n, true⟩ = 0
        · rw [if_pos he]; exact setT_leg l (h.liv i (hlive hL)) (reads_write _ _ rfl)
        · rw [if_neg he]; exact l
      · rw [if_neg hx']; exact l
  split
  · unfold commit
    cases hL : liveAt g a.id with
    | none => exact l
    | some i =>
      show Leg (match behind g.p i (aheadAll g.s i (Tx.writesL (g.t i))) with | none => _ | some q => _ : Eng × Int).1
      cases hb : behind g.p i (aheadAll g.s i (Tx.writesL (g.t i))) with
      | none => exact closed_leg h l (hlive hL)
      | some q => exact gather_leg (commit_inv h hK (hlive hL) (behind_more h.ps hb).1) (commit_leg h l (hlive hL) hb)
  split
  · unfold abort
    cases hL : liveAt g a.id with
    | none => exact l
    | some i => exact closed_leg h l (hlive hL)
  split
  · unfold back
    cases hL : liveAt g a.id with
    | none => exact l
    | some i =>
      show Leg (if 0 ≤ a.x ∧ a.x ≤ ((g.t i).length : Int) then _ else _ : Eng × Int).1
      split
      · exact setT_leg l (h.liv i (hlive hL)) (Tx.reads_back _ _)
      · exact l
  · unfold begin
    cases hf : Po.ff g.p with
    | none => exact l
    | some s => exact begun_leg h l hf
theorem new_leg {n vars : Int} (hv : 0 ≤ vars ∧ vars ≤ 64) : Leg (new n vars) := by
  have hn : St.newL vars = List.replicate vars.toNat St.fresh := by
    unfold St.newL St.newIs
    rw [if_pos (by simp; omega)]
  have hnt : ∀ i, ¬ Po.tk (Po.newP n) i := fun i hi => by simp [Po.tk, Po.newP] at hi
  refine ⟨fun _ _ j _ hj => absurd hj (hnt j), fun _ _ j _ hj => absurd hj (hnt j), fun L hL => ?_⟩
  have : L = [] := List.eq_nil_iff_forall_not_mem.2 fun i hi => hnt i ((hL.mem i).1 hi)
  subst this
  show start (St.newL vars).length = vals (St.newL vars)
  rw [hn]
  simp [start, vals, St.fresh]
/-- the order by places is one. -/
theorem slots_lin {g : Eng} (hs : Po.Sound g.p) : Lin g.p (slots g) := by
  have hr := hs.sorted.1
  refine ⟨Od.nodup_standing hr _, fun i => ?_, ?_⟩
  · show i ∈ Od.standing g.p.o (tkB g) ↔ _
    rw [Od.standing_mem hr, tkB_test]
    exact ⟨fun h => h.2, fun h => ⟨hs.tk32 h, h⟩⟩
  · show (Od.standing g.p.o (tkB g)).Pairwise _
    rw [Od.standing_eq, List.pairwise_map]
    refine (Od.places_rise g.p.o (tkB g)).imp_of_mem fun {a b} ha hb hab he => ?_
    have h1 := (Od.places_mem.1 ha).1
    have h2 := (Od.places_mem.1 hb).1
    have := hs.sorted.2 _ _ he
    rw [(Od.at_spec hr h1).2, (Od.at_spec hr h2).2] at this
    omega
end Go.Proofs.YtfdfiiocccafkaaGreatDoor.En
namespace Go.Proofs.YtfdfiiocccafkaaGreatDoor.En
open Mm Od
def rdK (a : Act) : Prop := 2 ≤ a.kind % 12 ∧ a.kind % 12 ≤ 4
def wrK (a : Act) : Prop := 5 ≤ a.kind % 12 ∧ a.kind % 12 ≤ 7
def cmK (a : Act) : Prop := 8 ≤ a.kind % 12 ∧ a.kind % 12 ≤ 9
theorem whoE_not (g : Eng) (id : Int) : whoE g id ≠ 0 ∧ whoE g id ≠ 5 := by unfold whoE; split <;> decide
theorem addE_not5 (L : List Tx.Sp) (s : Tx.Sp) : Tx.addE L s ≠ 5 := by unfold Tx.addE; split <;> (try split) <;> decide
theorem act_cases {g : Eng} {a : Act} {P : Eng → Int × Int → Int → Int → Prop}
    (err : ∀ e, e ≠ 0 → e ≠ 5 → P g (0, 0) 0 e)
    (known : rdK a → ∀ i s, liveAt g a.id = some i → St.has g.s a.x → Tx.look (g.t i) a.x = some s → P g (s.k, s.n) 0 0)
    (refused : ∀ i, liveAt g a.id = some i → (rdK a ∧ St.has g.s a.x ∧ behind g.p i (writer (St.at_ g.s a.x)) = none) ∨ (cmK a ∧ behind g.p i (aheadAll g.s i (Tx.writesL (g.t i))) = none) → P (closed g i false) (0, 0) 0 5)
    (reads : rdK a → ∀ i q, liveAt g a.id = some i → St.has g.s a.x → Tx.look (g.t i) a.x = none → (g.t i).length < 200 → behind g.p i (writer (St.at_ g.s a.x)) = some q → P (readTo g i a.x q) ((St.at_ g.s a.x).k, (St.at_ g.s a.x).n) 0 0)
    (writes : wrK a → ∀ i, liveAt g a.id = some i → St.has g.s a.x → Tx.addE (g.t i) ⟨a.x, a.k, a.n, true⟩ = 0 → P (setT g i (g.t i ++ [⟨a.x, a.k, a.n, true⟩])) (0, 0) 0 0)
    (commits : cmK a → ∀ i q, liveAt g a.id = some i → behind g.p i (aheadAll g.s i (Tx.writesL (g.t i))) = some q → P (closed (wrote g i q) i true) (0, 0) 0 0)
    (aborts : a.kind % 12 = 10 → ∀ i, liveAt g a.id = some i → P (closed g i false) (0, 0) 0 0)
    (backs : a.kind % 12 = 11 → ∀ i, liveAt g a.id = some i → P (setT g i (Tx.backL (g.t i) a.x.toNat)) (0, 0) 0 0)
    (begins : a.kind % 12 < 2 → ∀ s, Po.ff g.p = some s → P (begun g s) (0, 0) (g.p.count + 1) 0) :
    P (act g a).1 (act g a).2.1 (act g a).2.2.1 (act g a).2.2.2 := by
  have hw := whoE_not g a.id
  unfold act
  split
  · next hk =>
    have key : ∀ r, read g a.id a.x = r → P r.1 r.2.1 0 r.2.2 := by
      intro r hr
      unfold read at hr
      cases hL : liveAt g a.id with
      | none => rw [hL] at hr; subst hr; exact err _ hw.1 hw.2
      | some i =>
        rw [hL] at hr
        dsimp only at hr
        by_cases hx : St.has g.s a.x
        · rw [if_pos hx] at hr
          cases hl : Tx.look (g.t i) a.x with
          | some s => rw [hl] at hr; subst hr; exact known hk i s hL hx hl
          | none =>
            rw [hl] at hr
            dsimp only at hr
            by_cases hf : 200 ≤ (g.t i).length
            · rw [if_pos hf] at hr; subst hr; exact err 4 (by decide) (by decide)
            · rw [if_neg hf] at hr
              cases hb : behind g.p i (writer (St.at_ g.s a.x)) with
              | none => rw [hb] at hr; subst hr; exact refused i hL (.inl ⟨hk, hx, hb⟩)
              | some q => rw [hb] at hr; subst hr; exact reads hk i q hL hx hl (by omega) hb
        · rw [if_neg hx] at hr; subst hr; exact err 2 (by decide) (by decide)
    exact key _ rfl
  split
  · next hk =>
    have key : ∀ r, write g a.id a.x a.k a.n = r → P r.1 (0, 0) 0 r.2 := by
      intro r hr
      unfold write at hr
      cases hL : liveAt g a.id with
      | none => rw [hL] at hr; subst hr; exact err _ hw.1 hw.2
      | some i =>
        rw [hL] at hr
        dsimp only at hr
        by_cases hx : St.has g.s a.x
        · rw [if_pos hx] at hr
          by_cases he : Tx.addE (g.t i) ⟨a.x, a.k, a.n, true⟩ = 0
          · rw [if_pos he] at hr; subst hr; exact writes hk i hL hx he
          · rw [if_neg he] at hr; subst hr; exact err _ he (addE_not5 _ _)
        · rw [if_neg hx] at hr; subst hr; exact err 2 (by decide) (by decide)
    exact key _ rfl
  split
  · next hk =>
    have key : ∀ r, commit g a.id = r → P r.1 (0, 0) 0 r.2 := by
      intro r hr
      unfold commit at hr
      cases hL : liveAt g a.id with
      | none => rw [hL] at hr; subst hr; exact err _ hw.1 hw.2
      | some i =>
        rw [hL] at hr
        dsimp only at hr
        cases hb : behind g.p i (aheadAll g.s i (Tx.writesL (g.t i))) with
        | none => rw [hb] at hr; subst hr; exact refused i hL (.inr ⟨hk, hb⟩)
        | some q => rw [hb] at hr; subst hr; exact commits hk i q hL hb
    exact key _ rfl
  split
  · next hk =>
    have key : ∀ r, abort g a.id = r → P r.1 (0, 0) 0 r.2 := by
      intro r hr
      unfold abort at hr
      cases hL : liveAt g a.id with
      | none => rw [hL] at hr; subst hr; exact err _ hw.1 hw.2
      | some i => rw [hL] at hr; subst hr; exact aborts hk i hL
    exact key _ rfl
  split
  · next hk =>
    have key : ∀ r, back g a.id a.x = r → P r.1 (0, 0) 0 r.2 := by
      intro r hr
      unfold back at hr
      cases hL : liveAt g a.id with
      | none => rw [hL] at hr; subst hr; exact err _ hw.1 hw.2
      | some i =>
        rw [hL] at hr
        dsimp only at hr
        by_cases hx : 0 ≤ a.x ∧ a.x ≤ ((g.t i).length : Int)
        · rw [if_pos hx] at hr; subst hr; exact backs hk i hL
        · rw [if_neg hx] at hr; subst hr; exact err 2 (by decide) (by decide)
    exact key _ rfl
  · next h1 h2 h3 h4 h5 =>
    have key : ∀ r, begin g = r → P r.1 (0, 0) r.2.1 r.2.2 := by
      intro r hr
      unfold begin at hr
      cases hf : Po.ff g.p with
      | none => rw [hf] at hr; subst hr; exact err 4 (by decide) (by decide)
      | some s => rw [hf] at hr; subst hr; exact begins (by omega) s hf
    exact key _ rfl
/- who is live -/
theorem live_goes {g : Eng} (hs : Po.Sound g.p) {s : Nat} (hn : Po.next g.p = some s) (id : Int) : liveAt (goes g s) id = liveAt g id := by
  obtain ⟨h32, hd, _⟩ := Po.next_spec hn
  have e : (fun i => (Po.going g.p s).live.testBit i && decide ((Po.going g.p s).ids i = id)) = fun i => g.p.live.testBit i && decide (g.p.ids i = id) := by
    funext i
    show (g.p.live.testBit i && decide (Od.upd g.p.ids s 0 i = id)) = _
    by_cases e : i = s
    · subst e
      have : g.p.live.testBit i = false := by
        cases h : g.p.live.testBit i
        · rfl
        · exact (hs.apart i h hd).elim
      rw [this]; rfl
    · unfold Od.upd; rw [if_neg e]
  show (List.range 32).find? (fun i => (Po.going g.p s).live.testBit i && decide ((Po.going g.p s).ids i = id)) = _
  rw [e]; rfl
theorem live_gather {g : Eng} (hs : Po.Sound g.p) (id : Int) : liveAt (gather g) id = liveAt g id :=
  (gather_ind (fun g' => Po.Sound g'.p ∧ ∀ id, liveAt g' id = liveAt g id) (fun _ _ hP _ hn => ⟨Po.going_sound hP.1 (Po.next_spec hn).1 (Po.next_spec hn).2.1, fun id => (live_goes hP.1 hn id).trans (hP.2 id)⟩) g hs.done64 ⟨hs, fun _ => rfl⟩).2 id
theorem shut_sound {g : Eng} (hs : Po.Sound g.p) {i : Nat} (hi : g.p.live.testBit i = true) (c : Bool) : Po.Sound (shut g i c).p := Po.ended_sound hs (has_live hs hi)
theorem closed_live {g : Eng} (hs : Po.Sound g.p) {i : Nat} (hi : g.p.live.testBit i = true) {c : Bool} {id : Int} {j : Nat} : liveAt (closed g i c) id = some j ↔ liveAt g id = some j ∧ j ≠ i := by
  have hS := shut_sound hs hi c
  unfold closed
  rw [live_gather hS]
  constructor
  · intro h
    obtain ⟨_, h1, h2⟩ := liveAt_some h
    have h3 := (ended_live hs hi j).1 h1
    have h2 : g.p.ids j = id := h2
    exact ⟨by rw [← h2]; exact liveAt_of hs h3.1, h3.2⟩
  · rintro ⟨h, hne⟩
    obtain ⟨_, h1, h2⟩ := liveAt_some h
    have := liveAt_of hS (i := j) ((ended_live hs hi j).2 ⟨h1, hne⟩)
    rw [show (shut g i c).p.ids j = id from h2] at this
    exact this
theorem closed_none {g : Eng} (hs : Po.Sound g.p) {id : Int} {i : Nat} (h : liveAt g id = some i) (c : Bool) : liveAt (closed g i c) id = none := by
  cases hc : liveAt (closed g i c) id with
  | none => rfl
  | some j =>
    obtain ⟨h1, h2⟩ := (closed_live hs (liveAt_some h).2.1).1 hc
    rw [h] at h1
    exact absurd (Option.some.inj h1).symm h2
theorem closed_count {g : Eng} (hs : Po.Sound g.p) {i : Nat} (hi : g.p.live.testBit i = true) (c : Bool) : (closed g i c).p.count = g.p.count ∧ (closed g i c).p.size = g.p.size := by
  have := Po.collect_keeps _ (shut_sound hs hi c).done64
  exact ⟨this.2.2, this.2.1⟩
theorem closed_sound {g : Eng} (hs : Po.Sound g.p) {i : Nat} (hi : g.p.live.testBit i = true) (c : Bool) : Po.Sound (closed g i c).p := Po.collect_sound (shut_sound hs hi c)
theorem more_live {g g' : Eng} (m : More g.p g'.p) (id : Int) : liveAt g' id = liveAt g id := by unfold liveAt; rw [m.live, m.ids]
theorem begun_live {g : Eng} (hs : Po.Sound g.p) {s : Nat} (hf : Po.ff g.p = some s) {id : Int} {j : Nat} (hid : id ≤ g.p.count) (h : liveAt (begun g s) id = some j) : liveAt g id = some j ∧ j ≠ s := by
  obtain ⟨h32, hfr, _⟩ := Po.ff_spec hf
  obtain ⟨_, hnt⟩ := Po.freeAt_tk hfr
  obtain ⟨_, h1, h2⟩ := liveAt_some h
  have h2 : Od.upd g.p.ids s (g.p.count + 1) j = id := h2
  have h1 : (Sm.add g.p.live (s : Nat)).testBit j = true := h1
  unfold Od.upd at h2
  by_cases e : j = s
  · rw [if_pos e] at h2; omega
  · rw [if_neg e] at h2
    rw [Sm.add_test] at h1
    simp at h1
    have h3 : g.p.live.testBit j = true := by
      rcases h1 with h1 | h1
      · exact h1
      · omega
    exact ⟨by rw [← h2]; exact liveAt_of hs h3, e⟩
theorem rest_len {g : Eng} (hs : Po.Sound g.p) : (rest g).length = Sm.count (tkB g) := by
  show ((slots g).map (entry g)).length = (Sm.items (tkB g)).length
  rw [List.length_map]
  refine ((List.perm_ext_iff_of_nodup (slots_lin hs).nodup (Po.items_nodup _)).2 fun i => ?_).length_eq
  rw [(slots_lin hs).mem, Sm.items_mem, tkB_test]
  exact ⟨fun h => ⟨by have := hs.tk32 h; omega, h⟩, fun h => h.2⟩
end Go.Proofs.YtfdfiiocccafkaaGreatDoor.En
namespace Go.Proofs.YtfdfiiocccafkaaGreatDoor.En
open Mm Od
/- what was read once -/
abbrev Kf := Int → Int → Option (Int × Int)
def Kn (g : Eng) (f : Kf) : Prop := ∀ id x v, f id x = some v → id ≤ g.p.count ∧ ∀ i, liveAt g id = some i → ∃ s, Tx.look (g.t i) x = some s ∧ (s.k, s.n) = v
def kput (f : Kf) (id x : Int) (v : Int × Int) : Kf := fun j y => if j = id ∧ y = x then some v else f j y
theorem Kn.sub {g g' : Eng} {f : Kf} (h : Kn g f) (hc : g.p.count ≤ g'.p.count) (hl : ∀ id j, id ≤ g.p.count → liveAt g' id = some j → liveAt g id = some j ∧ g'.t j = g.t j) : Kn g' f := by
  intro id x v hf
  obtain ⟨h1, h2⟩ := h id x v hf
  refine ⟨Int.le_trans h1 hc, fun i hi => ?_⟩
  obtain ⟨h3, h4⟩ := hl id i h1 hi
  rw [h4]; exact h2 i h3
theorem look_snoc_rd {L : List Tx.Sp} {s : Tx.Sp} (hw : s.wr = false) (y : Int) : Tx.look (L ++ [s]) y = (Tx.look L y).or (if s.x = y then some s else none) := by
  unfold Tx.look
  rw [Tx.wr1_append, Tx.first_append]
  have h1 : Tx.wr1 [s] y = none := by simp [Tx.wr1, hw]
  have h2 : Tx.first [s] y = if s.x = y then some s else none := by simp [Tx.first, List.find?]; split <;> simp_all
  rw [h1, h2]
  cases Tx.wr1 L y <;> cases Tx.first L y <;> simp
theorem look_snoc_wr {L : List Tx.Sp} {s : Tx.Sp} (hw : s.wr = true) (y : Int) : Tx.look (L ++ [s]) y = if s.x = y then some s else Tx.look L y := by
  unfold Tx.look
  rw [Tx.wr1_append, Tx.first_append]
  have h1 : Tx.wr1 [s] y = if s.x = y then some s else none := by simp [Tx.wr1, hw]
  have h2 : Tx.first [s] y = if s.x = y then some s else none := by simp [Tx.first, List.find?]; split <;> simp_all
  rw [h1, h2]
  by_cases e : s.x = y
  · simp [e]
  · simp [e]
theorem Kn.setT {g : Eng} {f : Kf} (h : Kn g f) {id : Int} {i : Nat} (hs : Po.Sound g.p) (hL : liveAt g id = some i) {g' : Eng} (hm : More g.p g'.p) {l : List Tx.Sp} (ht : g'.t = ud g.t i l) {x : Int} {v : Int × Int} (hx : ∃ s, Tx.look l x = some s ∧ (s.k, s.n) = v)
    (ho : ∀ y s, y ≠ x → Tx.look (g.t i) y = some s → Tx.look l y = some s) : Kn g' (kput f id x v) := by
  intro j y u hf
  have hid := liveAt_in hs hL
  unfold kput at hf
  by_cases e : j = id ∧ y = x
  · rw [if_pos e] at hf
    obtain rfl := Option.some.inj hf
    obtain ⟨rfl, rfl⟩ := e
    refine ⟨by rw [hm.count]; omega, fun k hk => ?_⟩
    rw [more_live hm, hL] at hk
    obtain rfl := Option.some.inj hk
    rw [ht, ud_same]; exact hx
  · rw [if_neg e] at hf
    obtain ⟨h1, h2⟩ := h j y u hf
    refine ⟨by rw [hm.count]; exact h1, fun k hk => ?_⟩
    rw [more_live hm] at hk
    obtain ⟨s, h3, h4⟩ := h2 k hk
    rw [ht]
    by_cases ek : k = i
    · subst ek
      rw [ud_same]
      have e1 : j = id := (liveAt_some hk).2.2.symm.trans (liveAt_some hL).2.2
      exact ⟨s, ho y s (fun e2 => e ⟨e1, e2⟩) h3, h4⟩
    · rw [ud_other ek]; exact ⟨s, h3, h4⟩
theorem Kn.closed {g : Eng} {f : Kf} (h : Kn g f) (hs : Po.Sound g.p) {i : Nat} (hi : g.p.live.testBit i = true) (c : Bool) : Kn (closed g i c) f :=
  h.sub (by rw [(closed_count hs hi c).1]; exact Int.le_refl _) fun _ _ _ hj => ⟨((closed_live hs hi).1 hj).1, rfl⟩
/-- what is known behind an act. -/
def knows (f : Kf) (a : Act) (v : Int × Int) (e : Int) : Kf :=
  if e = 0 then
    if 2 ≤ a.kind % 12 ∧ a.kind % 12 ≤ 4 then kput f a.id a.x v
    else if 5 ≤ a.kind % 12 ∧ a.kind % 12 ≤ 7 then kput f a.id a.x (a.k, a.n)
    else if a.kind % 12 = 11 then fun _ _ => none
    else f
  else f
theorem act_known {K : Int} {g : Eng} (h : Inv K g) {f : Kf} (hk : Kn g f) (a : Act) :
    Kn (act g a).1 (knows f a (act g a).2.1 (act g a).2.2.2) ∧ ((2 ≤ a.kind % 12 ∧ a.kind % 12 ≤ 4) → (act g a).2.2.2 = 0 → ∀ w, f a.id a.x = some w → w = (act g a).2.1) := by
  have hs := h.ps
  refine act_cases (P := fun g' v _ e => Kn g' (knows f a v e) ∧ ((2 ≤ a.kind % 12 ∧ a.kind % 12 ≤ 4) → e = 0 → ∀ w, f a.id a.x = some w → w = v)) ?_ ?_ ?_ ?_ ?_ ?_ ?_ ?_ ?_
  · intro e h0 _
    unfold knows
    rw [if_neg h0]
    exact ⟨hk, fun _ h1 => absurd h1 h0⟩
  · intro hr i s hL hx hl
    have hr' : 2 ≤ a.kind % 12 ∧ a.kind % 12 ≤ 4 := hr
    unfold knows
    rw [if_pos rfl, if_pos hr']
    refine ⟨?_, fun _ _ w hw => ?_⟩
    · refine Kn.setT hk hs hL (g' := g) (More.refl hs) (l := g.t i) (funext fun j => ?_) ⟨s, hl, rfl⟩ (fun _ _ _ h => h)
      by_cases e : j = i
      · rw [e, ud_same]
      · rw [ud_other e]
    · obtain ⟨_, h2⟩ := hk _ _ _ hw
      obtain ⟨s', h3, h4⟩ := h2 i hL
      rw [hl] at h3
      obtain rfl := Option.some.inj h3
      exact h4.symm
  · intro i hL hr
    unfold knows
    rw [if_neg (by decide)]
    exact ⟨hk.closed hs (liveAt_some hL).2.1 false, fun _ h1 => absurd h1 (by decide)⟩
  · intro hr i q hL hx hl hlen hb
    have hr' : 2 ≤ a.kind % 12 ∧ a.kind % 12 ≤ 4 := hr
    unfold knows
    rw [if_pos rfl, if_pos hr']
    have m := (behind_more hs hb).1
    refine ⟨Kn.setT hk hs hL (g' := readTo g i a.x q) m (l := g.t i ++ [⟨a.x, (St.at_ g.s a.x).k, (St.at_ g.s a.x).n, false⟩]) rfl ⟨⟨a.x, (St.at_ g.s a.x).k, (St.at_ g.s a.x).n, false⟩, ?_, rfl⟩ ?_, fun _ _ w hw => ?_⟩
    · rw [look_snoc_rd rfl, hl]; simp
    · intro y s _ h1
      rw [look_snoc_rd rfl, h1]; rfl
    · obtain ⟨_, h2⟩ := hk _ _ _ hw
      obtain ⟨s', h3, _⟩ := h2 i hL
      rw [hl] at h3; cases h3
  · intro hr i hL hx he
    have hr' : 5 ≤ a.kind % 12 ∧ a.kind % 12 ≤ 7 := hr
    unfold knows
    rw [if_pos rfl, if_neg (by omega), if_pos hr']
    refine ⟨Kn.setT hk hs hL (g' := setT g i _) (More.refl hs) (l := g.t i ++ [⟨a.x, a.k, a.n, true⟩]) rfl ⟨⟨a.x, a.k, a.n, true⟩, ?_, rfl⟩ ?_, fun h1 => by omega⟩
    · rw [look_snoc_wr rfl]; simp
    · intro y s hne h1
      rw [look_snoc_wr rfl, if_neg (fun e => hne e.symm)]; exact h1
  · intro hr i q hL hb
    have hr' : 8 ≤ a.kind % 12 ∧ a.kind % 12 ≤ 9 := hr
    unfold knows
    rw [if_pos rfl, if_neg (by omega), if_neg (by omega), if_neg (by omega)]
    have m := (behind_more hs hb).1
    have hk2 : Kn (wrote g i q) f := hk.sub (by show g.p.count ≤ q.count; rw [m.count]; exact Int.le_refl _) fun id j _ hj => ⟨by rw [more_live (g' := wrote g i q) m] at hj; exact hj, rfl⟩
    exact ⟨hk2.closed m.sound (by show q.live.testBit i = true; rw [m.live]; exact (liveAt_some hL).2.1) true, fun h1 => by omega⟩
  · intro hr i hL
    unfold knows
    rw [if_pos rfl, if_neg (by omega), if_neg (by omega), if_neg (by omega)]
    exact ⟨hk.closed hs (liveAt_some hL).2.1 false, fun h1 => by omega⟩
  · intro hr i hL
    unfold knows
    rw [if_pos rfl, if_neg (by omega), if_neg (by omega), if_pos hr]
    exact ⟨fun _ _ _ h1 => by simp at h1, fun h1 => by omega⟩
  · intro hr s hf
    unfold knows
    rw [if_pos rfl, if_neg (by omega), if_neg (by omega), if_neg (by omega)]
    refine ⟨hk.sub (by show g.p.count ≤ g.p.count + 1; omega) fun id j hid hj => ?_, fun h1 => by omega⟩
    obtain ⟨h1, h2⟩ := begun_live hs hf hid hj
    exact ⟨h1, ud_other h2⟩
/- who is refused -/
theorem ahead_other {K : Int} {g : Eng} (h : Inv K g) {i : Nat} (hi : g.p.live.testBit i = true) {v : St.Vr} (hv : v ∈ g.s) {a : Int} (ha : a ∈ aheadOf v i) : ∃ k, k ≠ i ∧ Po.tk g.p k := by
  unfold aheadOf at ha
  rcases List.mem_append.1 ha with h1 | h1
  · rcases h.wr v hv with h2 | ⟨k, _, h3, h4⟩
    · unfold writer at h1
      rw [h2, if_pos (by decide)] at h1
      cases h1
    · refine ⟨k, fun e => ?_, h3⟩
      rw [e, h.liv i hi] at h4
      cases h4
  · unfold readers at h1
    obtain ⟨k, hk, _⟩ := List.mem_map.1 h1
    have h2 := (Sm.items_mem.1 hk).2
    rw [Sm.less_test _ _ (h.vok v hv).1.2.2.2.2] at h2
    simp at h2
    have hi32 := h.ps.tk32 (.inl hi)
    exact ⟨k, by omega, h.mar v hv k h2.1⟩
theorem two_mem {l : List Nat} {i k : Nat} (hi : i ∈ l) (hk : k ∈ l) (hne : k ≠ i) : 2 ≤ l.length := by
  match l with
  | [] => cases hi
  | [b] =>
    rw [List.mem_singleton] at hi hk
    exact absurd (hk.trans hi.symm) hne
  | _ :: _ :: _ => simp
theorem behind_none_mem {s : Nat} {l : List Int} {p : Pl} (h : behind p s l = none) : ∃ a, a ∈ l := by
  match l with
  | [] => unfold behind at h; cases h
  | a :: _ => exact ⟨a, by simp⟩
theorem refused_two {K : Int} {g : Eng} (h : Inv K g) {a : Act} {i : Nat} (hL : liveAt g a.id = some i)
    (hr : (rdK a ∧ St.has g.s a.x ∧ behind g.p i (writer (St.at_ g.s a.x)) = none) ∨ (cmK a ∧ behind g.p i (aheadAll g.s i (Tx.writesL (g.t i))) = none)) : 2 ≤ (rest g).length := by
  have hi := (liveAt_some hL).2.1
  have hk : ∃ k, k ≠ i ∧ Po.tk g.p k := by
    rcases hr with ⟨_, hx, hb⟩ | ⟨_, hb⟩
    · obtain ⟨b, hb⟩ := behind_none_mem hb
      exact ahead_other h hi (get_mem hx) (a := b) (by unfold aheadOf; exact List.mem_append_left _ hb)
    · obtain ⟨b, hb⟩ := behind_none_mem hb
      unfold aheadAll at hb
      obtain ⟨w, hw, hb⟩ := List.mem_flatMap.1 hb
      exact ahead_other h hi (get_mem (h.ts i (.inl hi) w (writes_mem hw).1).1) hb
  obtain ⟨k, hne, hk⟩ := hk
  show 2 ≤ ((slots g).map (entry g)).length
  rw [List.length_map]
  have hl := slots_lin h.ps
  exact two_mem ((hl.mem i).2 (.inl hi)) ((hl.mem k).2 hk) hne
theorem act_refused {K : Int} {g : Eng} (h : Inv K g) {a : Act} (he : (act g a).2.2.2 = 5) : vals (act g a).1.s = vals g.s ∧ 2 ≤ (rest g).length ∧ abort (act g a).1 a.id = ((act g a).1, 6) := by
  have key : (act g a).2.2.2 = 5 → vals (act g a).1.s = vals g.s ∧ 2 ≤ (rest g).length ∧ abort (act g a).1 a.id = ((act g a).1, 6) := by
    refine act_cases (P := fun g' _ _ e => e = 5 → vals g'.s = vals g.s ∧ 2 ≤ (rest g).length ∧ abort g' a.id = (g', 6)) ?_ ?_ ?_ ?_ ?_ ?_ ?_ ?_ ?_
    · intro e _ h5 h1; exact absurd h1 h5
    · intro _ _ _ _ _ _ h1; exact absurd h1 (by decide)
    · intro i hL hr _
      have hi := (liveAt_some hL).2.1
      refine ⟨vals_drops _ _, refused_two h hL hr, ?_⟩
      unfold abort
      rw [closed_none h.ps hL]
      show (_, whoE _ _) = _
      unfold whoE
      rw [(closed_count h.ps hi false).1, if_neg (liveAt_in h.ps hL)]
    · intro _ _ _ _ _ _ _ _ h1; exact absurd h1 (by decide)
    · intro _ _ _ _ _ h1; exact absurd h1 (by decide)
    · intro _ _ _ _ _ h1; exact absurd h1 (by decide)
    · intro _ _ _ h1; exact absurd h1 (by decide)
    · intro _ _ _ h1; exact absurd h1 (by decide)
    · intro _ _ _ h1; exact absurd h1 (by decide)
  exact key he
/- engines that are empty -/
def Nx (g : Eng) : Prop := ∀ s, g.p.done.testBit s = true → ∃ i, E g.p.m i s
theorem closed_nx {g : Eng} (hs : Po.Sound g.p) {i : Nat} (hi : g.p.live.testBit i = true) (c : Bool) : Nx (closed g i c) := fun s hd => by
  have hS := closed_sound hs hi c
  exact Po.next_none (Po.collect_next (shut_sound hs hi c).done64) (hS.tk32 (.inr hd)) hd
theorem act_nx {K : Int} {g : Eng} (h : Inv K g) (hn : Nx g) (a : Act) : Nx (act g a).1 := by
  have hs := h.ps
  refine act_cases (P := fun g' _ _ _ => Nx g') ?_ ?_ ?_ ?_ ?_ ?_ ?_ ?_ ?_
  · intro _ _ _; exact hn
  · intro _ _ _ _ _ _; exact hn
  · intro i hL _; exact closed_nx hs (liveAt_some hL).2.1 false
  · intro _ i q hL _ _ _ hb s hd
    have m := (behind_more hs hb).1
    have hd : q.done.testBit s = true := hd
    rw [m.done] at hd
    obtain ⟨j, hj⟩ := hn s hd
    exact ⟨j, m.edge _ _ hj⟩
  · intro _ _ _ _ _; exact hn
  · intro _ i q hL hb
    have m := (behind_more hs hb).1
    exact closed_nx (g := wrote g i q) m.sound (by show q.live.testBit i = true; rw [m.live]; exact (liveAt_some hL).2.1) true
  · intro _ i hL; exact closed_nx hs (liveAt_some hL).2.1 false
  · intro _ _ _; exact hn
  · intro _ s hf t hd
    obtain ⟨h32, hfr, _⟩ := Po.ff_spec hf
    obtain ⟨j, hj⟩ := hn t hd
    exact ⟨j, (Po.begun_inv hs h32 (Po.freeAt_tk hfr).2).old _ _ hj⟩
theorem new_nx (n vars : Int) : Nx (new n vars) := fun s hd => by simp [new, Po.newP] at hd
theorem count_le {p : Pl} (h : Po.Sound p) : ((Sm.count (p.live ||| p.done) : Nat) : Int) ≤ p.size := by
  have hsz := h.size
  obtain ⟨n, hn⟩ := Int.eq_ofNat_of_zero_le (show 0 ≤ p.size by omega)
  have e : (List.range 64).filter (fun i => (p.live ||| p.done).testBit i) = (List.range n).filter (fun i => (p.live ||| p.done).testBit i) := by
    have h64 : 64 = n + (64 - n) := by omega
    rw [h64, List.range_add, List.filter_append]
    have : ((List.range (64 - n)).map (n + ·)).filter (fun i => (p.live ||| p.done).testBit i) = [] := by
      rw [List.filter_eq_nil_iff]
      intro a ha
      obtain ⟨b, _, rfl⟩ := List.mem_map.1 ha
      intro ht
      have := h.inn _ (Po.tk_or.2 ht)
      omega
    rw [this, List.append_nil]
  have : Sm.count (p.live ||| p.done) ≤ n := by
    show (Sm.items (p.live ||| p.done)).length ≤ n
    unfold Sm.items
    rw [e]
    exact Nat.le_trans (List.length_filter_le _ _) (by simp)
  omega
theorem ff_room {g : Eng} (hs : Po.Sound g.p) (h : ((rest g).length : Int) < g.p.size) : ∃ s, Po.ff g.p = some s := by
  cases hf : Po.ff g.p with
  | some s => exact ⟨s, rfl⟩
  | none =>
    have := Po.full_count hs hf
    rw [rest_len hs] at h
    have : ((Sm.count (tkB g) : Nat) : Int) = g.p.size := this
    omega
theorem ff_full' {K : Int} {g : Eng} (h : Inv K g) (hl : ((rest g).length : Int) = g.p.size) : Po.ff g.p = none := by
  cases hf : Po.ff g.p with
  | none => rfl
  | some s =>
    have hb := begun_inv h hf
    have h1 := count_le hb.ps
    have h2 := hb.log
    have h3 := h.log
    rw [rest_len h.ps] at hl
    have h4 : (begun g s).log.length = g.log.length := rfl
    have h5 : (begun g s).p.count = g.p.count + 1 := rfl
    have h6 : (begun g s).p.size = g.p.size := rfl
    have h7 : ((Sm.count (tkB (begun g s)) : Nat) : Int) ≤ (begun g s).p.size := h1
    omega
theorem begun_rest {K : Int} {g : Eng} (h : Inv K g) {s : Nat} (hf : Po.ff g.p = some s) : (rest (begun g s)).length = (rest g).length + 1 := by
  have hb := begun_inv h hf
  rw [rest_len hb.ps, rest_len h.ps]
  have h2 := hb.log
  have h3 := h.log
  have h4 : (begun g s).log.length = g.log.length := rfl
  have h5 : (begun g s).p.count = g.p.count + 1 := rfl
  omega
/-- who is still to be aborted. -/
structure AbI (g : Eng) (l : List Ent) : Prop where
  nod : (l.map (·.id)).Nodup
  all : ∀ e ∈ l, e.ovr = false → ∃ i, liveAt g e.id = some i
  no : ∀ i, g.p.live.testBit i = true → ∃ e ∈ l, e.ovr = false ∧ e.id = g.p.ids i
theorem AbI.start {g : Eng} (hs : Po.Sound g.p) : AbI g (rest g) := by
  have hl := slots_lin hs
  refine ⟨?_, ?_, ?_⟩
  · show (((slots g).map (entry g)).map (·.id)).Nodup
    rw [List.map_map]
    have : (slots g).Pairwise fun a b => ((fun e : Ent => e.id) ∘ entry g) a ≠ ((fun e : Ent => e.id) ∘ entry g) b := hl.nodup.imp_of_mem fun {a b} ha hb hab e => hab (hs.uniq a b ((hl.mem a).1 ha) ((hl.mem b).1 hb) e)
    rw [List.Nodup, List.pairwise_map]
    exact this
  · intro e he ho
    obtain ⟨i, hi, rfl⟩ := List.mem_map.1 he
    have ho : g.p.done.testBit i = false := ho
    rcases (hl.mem i).1 hi with h1 | h1
    · exact ⟨i, liveAt_of hs h1⟩
    · rw [h1] at ho; cases ho
  · intro i hi
    refine ⟨entry g i, List.mem_map.2 ⟨i, (hl.mem i).2 (.inl hi), rfl⟩, ?_, rfl⟩
    show g.p.done.testBit i = false
    cases hd : g.p.done.testBit i
    · rfl
    · exact (hs.apart i hi hd).elim
theorem AbI.skip {g : Eng} {e : Ent} {l : List Ent} (h : AbI g (e :: l)) (ho : e.ovr = true) : AbI g l := by
  refine ⟨(List.nodup_cons.1 h.nod).2, fun e' he' => h.all e' (by simp [he']), fun i hi => ?_⟩
  obtain ⟨e', he', h1, h2⟩ := h.no i hi
  rcases List.mem_cons.1 he' with rfl | he'
  · rw [ho] at h1; cases h1
  · exact ⟨e', he', h1, h2⟩
theorem AbI.step {g : Eng} (hs : Po.Sound g.p) {e : Ent} {l : List Ent} (h : AbI g (e :: l)) (ho : e.ovr = false) : (abort g e.id).2 = 0 ∧ AbI (abort g e.id).1 l := by
  obtain ⟨i, hL⟩ := h.all e (by simp) ho
  have hi := (liveAt_some hL).2.1
  have ha : abort g e.id = (closed g i false, 0) := by unfold abort; rw [hL]
  rw [ha]
  refine ⟨rfl, (List.nodup_cons.1 h.nod).2, fun e' he' ho' => ?_, fun j hj => ?_⟩
  · obtain ⟨i', hL'⟩ := h.all e' (by simp [he']) ho'
    refine ⟨i', (closed_live hs hi).2 ⟨hL', fun e2 => ?_⟩⟩
    subst e2
    have e3 : e'.id = e.id := (liveAt_some hL').2.2.symm.trans (liveAt_some hL).2.2
    exact (List.nodup_cons.1 h.nod).1 (List.mem_map.2 ⟨e', he', e3⟩)
  · have h1 := liveAt_of (closed_sound hs hi false) hj
    obtain ⟨h2, h3⟩ := (closed_live hs hi).1 h1
    obtain ⟨_, h4, h5⟩ := liveAt_some h2
    obtain ⟨e', he', h6, h7⟩ := h.no j h4
    rcases List.mem_cons.1 he' with rfl | he'
    · exact absurd (hs.uniq j i (.inl h4) (.inl hi) (h7.symm.trans (liveAt_some hL).2.2.symm)) h3
    · exact ⟨e', he', h6, h7.trans h5⟩
theorem AbI.done {g : Eng} (hs : Po.Sound g.p) (hn : Nx g) (h : AbI g []) : rest g = [] := by
  have hl : g.p.live = 0 := Sm.ext fun i => by
    cases hi : g.p.live.testBit i
    · simp
    · obtain ⟨e, he, _⟩ := h.no i hi; cases he
  have hd := Po.all_go hs hl (by
    cases hx : Po.next g.p with
    | none => rfl
    | some s =>
      obtain ⟨_, h1, h2⟩ := Po.next_spec hx
      obtain ⟨i, hi⟩ := hn s h1
      exact absurd hi (h2 i))
  have hc : (rest g).length = 0 := by
    rw [rest_len hs]
    show (Sm.items (g.p.live ||| g.p.done)).length = 0
    rw [hl, hd]; simp [Sm.items]
  exact List.length_eq_zero_iff.1 hc
end Go.Proofs.YtfdfiiocccafkaaGreatDoor.En
namespace Go.Proofs.YtfdfiiocccafkaaGreatDoor.En
open Mm Od
def Leaf (p : Pl) (s : Nat) : Prop := ∀ j, ¬ E p.m s j
theorem edge_leaf {p : Pl} (hs : Po.Sound p) {a s : Nat} (hl : Leaf p s) (ha : Po.tk p a) (hsk : Po.tk p s) (hne : a ≠ s) : (Po.edge p (a : Nat) (s : Nat)).2 = 0 ∧ Leaf (Po.edge p (a : Nat) (s : Nat)).1 s := by
  have h32 := hs.tk32 ha
  have h32' := hs.tk32 hsk
  have hlt : p.live ||| p.done < 18446744073709551616 := by have := or_lt32 hs.live32 hs.done32; omega
  have tkT : ∀ {i : Nat}, Po.tk p i → Po.taken p (i : Nat) = true := fun {i} hi => by
    unfold Po.taken
    rw [Sm.has_nat _ hlt]
    exact Po.tk_or.1 hi
  rcases Po.ins_may h32 h32' hne hs.sorted with ⟨q, e, _, _⟩ | ⟨_, hf⟩
  · have h0 : Po.edge p (a : Nat) (s : Nat) = (Po.over p (Mm.put p.m a s, q), 0) := by
      unfold Po.edge
      rw [if_neg (by omega), if_neg (by rw [tkT ha, tkT hsk]; decide), e]
      rfl
    rw [h0]
    refine ⟨rfl, fun j he => ?_⟩
    have he : E (Mm.put p.m a s) s j := he
    rcases (put_E h32 h32' s j).1 he with h1 | ⟨h1, _⟩
    · exact hl j h1
    · exact hne h1.symm
  · rw [put_closes h32 h32' hne (sorted_free hs.sorted), Sm.has_nat _ (ways_lt _ _)] at hf
    simp at hf
    have hw := ((ways_test _ _ _).1 hf).2
    rcases hw.cases_head with h1 | ⟨_, h1, _⟩
    · exact absurd h1 (hl _)
    · exact absurd h1 (hl _)
theorem behind_leaf {s : Nat} : ∀ {l : List Int} {p : Pl}, Po.Sound p → Leaf p s → Po.tk p s → (∀ a ∈ l, ∃ k : Nat, a = k ∧ Po.tk p k ∧ k ≠ s) → ∃ q, behind p s l = some q
  | [], p, _, _, _, _ => ⟨p, rfl⟩
  | a :: l, p, hs, hl, hk, h => by
    obtain ⟨k, rfl, hk1, hk2⟩ := h a (by simp)
    obtain ⟨h0, hl'⟩ := edge_leaf hs hl hk1 hk hk2
    have m := (edge_more hs h0).1
    obtain ⟨q, hq⟩ := behind_leaf (l := l) m.sound hl' ((m.tk s).2 hk) (fun b hb => by
      obtain ⟨j, h1, h2, h3⟩ := h b (by simp [hb])
      exact ⟨j, h1, (m.tk j).2 h2, h3⟩)
    refine ⟨q, ?_⟩
    unfold behind
    rw [if_pos h0]; exact hq
/-- all that has to stand ahead is there, and is another one. -/
theorem ahead_tk {K : Int} {g : Eng} (h : Inv K g) {i : Nat} (hi : g.p.live.testBit i = true) {v : St.Vr} (hv : v ∈ g.s) : ∀ a ∈ aheadOf v i, ∃ k : Nat, a = k ∧ Po.tk g.p k ∧ k ≠ i := by
  intro a ha
  unfold aheadOf at ha
  rcases List.mem_append.1 ha with h1 | h1
  · unfold writer at h1
    rcases h.wr v hv with h2 | ⟨k, h2, h3, h4⟩
    · rw [h2, if_pos (by decide)] at h1
      cases h1
    · rw [h2, if_neg (by omega), List.mem_singleton] at h1
      exact ⟨k, h1, h3, fun e => by rw [e, h.liv i hi] at h4; cases h4⟩
  · unfold readers at h1
    obtain ⟨k, hk, e⟩ := List.mem_map.1 h1
    have h2 := (Sm.items_mem.1 hk).2
    rw [Sm.less_test _ _ (h.vok v hv).1.2.2.2.2] at h2
    simp at h2
    have hi32 := h.ps.tk32 (.inl hi)
    exact ⟨k, e.symm, h.mar v hv k h2.1, by omega⟩
theorem writer_tk {K : Int} {g : Eng} (h : Inv K g) {i : Nat} (hi : g.p.live.testBit i = true) {v : St.Vr} (hv : v ∈ g.s) : ∀ a ∈ writer v, ∃ k : Nat, a = k ∧ Po.tk g.p k ∧ k ≠ i :=
  fun a ha => ahead_tk h hi hv a (by unfold aheadOf; exact List.mem_append_left _ ha)
theorem read_leaf {K : Int} {g : Eng} (h : Inv K g) {i : Nat} (hi : g.p.live.testBit i = true) (hl : Leaf g.p i) {x : Int} (hx : St.has g.s x) : ∃ q, behind g.p i (writer (St.at_ g.s x)) = some q :=
  behind_leaf h.ps hl (.inl hi) (writer_tk h hi (get_mem hx))
theorem commit_leaf {K : Int} {g : Eng} (h : Inv K g) {i : Nat} (hi : g.p.live.testBit i = true) (hl : Leaf g.p i) : ∃ q, behind g.p i (aheadAll g.s i (Tx.writesL (g.t i))) = some q := by
  refine behind_leaf h.ps hl (.inl hi) fun a ha => ?_
  unfold aheadAll at ha
  obtain ⟨w, hw, hb⟩ := List.mem_flatMap.1 ha
  exact ahead_tk h hi (get_mem (h.ts i (.inl hi) w (writes_mem hw).1).1) a hb
theorem begun_leaf {K : Int} {g : Eng} (h : Inv K g) {s : Nat} (hf : Po.ff g.p = some s) : Leaf (begun g s).p s := by
  obtain ⟨h32, hfr, _⟩ := Po.ff_spec hf
  obtain ⟨_, hnt⟩ := Po.freeAt_tk hfr
  intro j he
  rcases (Po.begun_inv h.ps h32 hnt).new _ _ he with h1 | ⟨h1, _⟩
  · exact hnt (h.ps.edges _ _ h1).1
  · exact hnt (.inr (Sm.items_mem.1 h1).2)
/-- one that begins is live, has the next number, and nothing else changes. -/
theorem begun_at {K : Int} {g : Eng} (h : Inv K g) {s : Nat} (hf : Po.ff g.p = some s) : liveAt (begun g s) (g.p.count + 1) = some s := by
  obtain ⟨h32, _, _⟩ := Po.ff_spec hf
  have hb := begun_inv h hf
  have e : (begun g s).p.ids s = g.p.count + 1 := by show Od.upd g.p.ids s (g.p.count + 1) s = _; unfold Od.upd; rw [if_pos rfl]
  have hl : (begun g s).p.live.testBit s = true := by show (Sm.add g.p.live (s : Nat)).testBit s = true; rw [Sm.add_test]; simp; omega
  have := liveAt_of hb.ps hl
  rwa [e] at this
theorem begun_stays {K : Int} {g : Eng} (h : Inv K g) {s : Nat} (hf : Po.ff g.p = some s) {id : Int} {i : Nat} (hL : liveAt g id = some i) : liveAt (begun g s) id = some i ∧ i ≠ s := by
  obtain ⟨h32, hfr, _⟩ := Po.ff_spec hf
  obtain ⟨_, hnt⟩ := Po.freeAt_tk hfr
  obtain ⟨_, h1, h2⟩ := liveAt_some hL
  have hne : i ≠ s := fun e => hnt (e ▸ .inl h1)
  have e : (begun g s).p.ids i = id := by show Od.upd g.p.ids s (g.p.count + 1) i = _; unfold Od.upd; rw [if_neg hne]; exact h2
  have hl : (begun g s).p.live.testBit i = true := by show (Sm.add g.p.live (s : Nat)).testBit i = true; rw [Sm.add_test, h1]; rfl
  have := liveAt_of (begun_inv h hf).ps hl
  rw [e] at this
  exact ⟨this, hne⟩
theorem new_ff {n vars : Int} (h : 1 ≤ n) : Po.ff (new n vars).p = some 0 := by
  refine Po.ff_some (by decide) ?_ (fun j hj => by omega)
  unfold Po.freeAt
  rw [show (new n vars).p.live = 0 from rfl, show (new n vars).p.done = 0 from rfl, show (new n vars).p.size = n from rfl, decide_eq_true (by omega)]
  rfl
end Go.Proofs.YtfdfiiocccafkaaGreatDoor.En
namespace Go.Proofs.YtfdfiiocccafkaaGreatDoor.En
open Mm Od
theorem at_vals {S : List St.Vr} {x : Int} (h : St.has S x) : (vals S)[x.toNat]? = some ((St.at_ S x).k, (St.at_ S x).n) := by
  unfold vals
  rw [List.getElem?_map, at_get h]; rfl
theorem vals_at {S T : List St.Vr} {x : Int} (h : St.has S x) (hv : vals T = vals S) : (St.at_ T x).k = (St.at_ S x).k ∧ (St.at_ T x).n = (St.at_ S x).n := by
  have hl : T.length = S.length := by rw [← vals_len T, hv, vals_len]
  have h1 := at_vals ((has_len hl x).2 h)
  rw [hv, at_vals h] at h1
  have := Option.some.inj h1
  exact ⟨(congrArg Prod.fst this).symm, (congrArg Prod.snd this).symm⟩
theorem wr1_one (x k n y : Int) : Tx.wr1 [⟨x, k, n, true⟩] y = if x = y then some ⟨x, k, n, true⟩ else none := by
  unfold Tx.wr1
  by_cases e : x = y <;> simp [e]
theorem writes_one {x k n : Int} (h0 : 0 ≤ x) (h1 : x < 64) : (⟨x, k, n, true⟩ : Tx.Sp) ∈ Tx.writesL [⟨x, k, n, true⟩] := by
  unfold Tx.writesL Tx.rise
  refine List.mem_filterMap.2 ⟨x.toNat, by simp; omega, ?_⟩
  rw [wr1_one, if_pos (by omega)]
/-- what a variable has behind a commit that wrote it alone. -/
theorem commit_val {K : Int} {g : Eng} (h : Inv K g) {i : Nat} (hi : g.p.live.testBit i = true) {x k n : Int} (ht : g.t i = [⟨x, k, n, true⟩]) (q : Pl) : ((St.at_ (closed (wrote g i q) i true).s x).k = k ∧ (St.at_ (closed (wrote g i q) i true).s x).n = n) ∧ (closed (wrote g i q) i true).s.length = g.s.length := by
  have hm : (⟨x, k, n, true⟩ : Tx.Sp) ∈ g.t i := by rw [ht]; simp
  have ho := h.ts i (.inl hi) _ hm
  have hx := ho.1
  have hlen := h.len
  have hx64 : 0 ≤ x ∧ x < 64 := by unfold St.has at hx; have hx : 0 ≤ x ∧ x < (g.s.length : Int) := hx; omega
  have hW : ∀ w ∈ Tx.writesL (g.t i), St.has g.s w.x ∧ St.right w.k w.n = true := fun w hw => by
    have := h.ts i (.inl hi) w (writes_mem hw).1
    exact ⟨this.1, this.2.1⟩
  have hl := puts_len (g.n + 1) i (Tx.writesL (g.t i)) g.s
  have hp := puts_get (g.n + 1) (h.ps.tk32 (.inl hi)) x.toNat (Tx.writesL (g.t i)) g.s hW
  have hv : vals (closed (wrote g i q) i true).s = vals (puts g.s (g.n + 1) i (Tx.writesL (g.t i))) := vals_drops _ _
  have hxp : St.has (puts g.s (g.n + 1) i (Tx.writesL (g.t i))) x := (has_len hl x).2 hx
  refine ⟨?_, by rw [← vals_len, hv, vals_len, hl]⟩
  have e := vals_at hxp hv
  rw [e.1, e.2]
  have hg := at_get hxp
  rcases hp with ⟨w, hw, _, h2⟩ | ⟨h1, _⟩
  · have h3 := (writes_mem hw).1
    rw [ht] at h3
    have h3 : w = ⟨x, k, n, true⟩ := by simpa using h3
    rw [h2] at hg
    rw [← Option.some.inj hg, h3]
    exact ⟨rfl, rfl⟩
  · exact absurd (show x = ((x.toNat : Nat) : Int) by omega) (h1 _ (by rw [ht]; exact writes_one hx64.1 hx64.2))
theorem look_nil (x : Int) : Tx.look [] x = none := rfl
theorem begin_at {g : Eng} {s : Nat} (h : Po.ff g.p = some s) : begin g = (begun g s, g.p.count + 1, 0) := by unfold begin; rw [h]
theorem begun_t (g : Eng) (s : Nat) : (begun g s).t s = [] := ud_same _ _ _
theorem begun_t' {g : Eng} {s i : Nat} (h : i ≠ s) : (begun g s).t i = g.t i := ud_other h
/-- a read by one that just began. -/
theorem read_new {K : Int} {g : Eng} (h : Inv K g) {s : Nat} (hf : Po.ff g.p = some s) {x : Int} (hx : St.has g.s x) : ∃ q, More (begun g s).p q ∧ read (begun g s) (g.p.count + 1) x = (readTo (begun g s) s x q, ((St.at_ g.s x).k, (St.at_ g.s x).n), 0) := by
  have hb := begun_inv h hf
  have hL := begun_at h hf
  obtain ⟨q, hq⟩ := read_leaf hb (liveAt_some hL).2.1 (begun_leaf h hf) (x := x) hx
  refine ⟨q, (behind_more hb.ps hq).1, ?_⟩
  unfold read
  rw [hL]
  show (if St.has g.s x then _ else _) = _
  rw [if_pos hx, begun_t]
  show (if 200 ≤ ([] : List Tx.Sp).length then _ else _) = _
  rw [if_neg (by simp)]
  show (match behind (begun g s).p s (writer (St.at_ (begun g s).s x)) with | none => _ | some q => _) = _
  rw [hq]; rfl
theorem commit_one {K : Int} {g : Eng} (h : Inv K g) {id : Int} {i : Nat} (hL : liveAt g id = some i) (hl : Leaf g.p i) : ∃ q, More g.p q ∧ commit g id = (closed (wrote g i q) i true, 0) := by
  have hi := (liveAt_some hL).2.1
  obtain ⟨q, hq⟩ := commit_leaf h hi hl
  refine ⟨q, (behind_more h.ps hq).1, ?_⟩
  unfold commit
  rw [hL]
  show (match behind g.p i (aheadAll g.s i (Tx.writesL (g.t i))) with | none => _ | some q => _) = _
  rw [hq]
theorem write_one {g : Eng} {id x k n : Int} {i : Nat} (hL : liveAt g id = some i) (hx : St.has g.s x) (hl : g.s.length ≤ 64) (ht : g.t i = []) (hr : Tx.right k n = true) : write g id x k n = (setT g i [⟨x, k, n, true⟩], 0) := by
  have hx' : 0 ≤ x ∧ x < (g.s.length : Int) := hx
  unfold write
  rw [hL]
  show (if St.has g.s x then _ else _) = _
  have e : Tx.addE (g.t i) ⟨x, k, n, true⟩ = 0 := by
    rw [ht]
    unfold Tx.addE
    rw [if_pos ⟨by show 0 ≤ x; omega, by show x < 64; omega, hr⟩]; rfl
  rw [if_pos hx, if_pos e, ht]; rfl
theorem write_wrong {g : Eng} {id x k n : Int} {i : Nat} (hL : liveAt g id = some i) (hx : St.has g.s x) (hr : ¬ Tx.right k n = true) : write g id x k n = (g, 2) := by
  unfold write
  rw [hL]
  show (if St.has g.s x then _ else _) = _
  have e : Tx.addE (g.t i) ⟨x, k, n, true⟩ = 2 := by
    unfold Tx.addE
    rw [if_neg (fun h => hr h.2.2)]
  rw [if_pos hx, e]; rfl
theorem live_setT (g : Eng) (i : Nat) (l : List Tx.Sp) (id : Int) : liveAt (setT g i l) id = liveAt g id := rfl
/- the first look -/
theorem new_len {n vars : Int} (hv : 0 ≤ vars ∧ vars ≤ 64) : (new n vars).s = List.replicate vars.toNat St.fresh := by
  show St.newL vars = _
  unfold St.newL St.newIs
  rw [if_pos (by simp; omega)]
/-- the engines that the first look goes through. -/
structure First (g1 g2 g3 g4 g5 : Eng) : Prop where
  i0 : Inv 0 (new 2 2)
  i1 : Inv 1 g1
  i2 : Inv 2 g2
  i3 : Inv 3 g3
  i4 : Inv 4 g4
  i5 : Inv 5 g5
  b1 : begin (new 2 2) = (g1, 1, 0)
  w2 : write g1 1 0 1 5 = (g2, 0)
  c3 : commit g2 1 = (g3, 0)
  b4 : begin g3 = (g4, 2, 0)
  r5 : read g4 2 0 = (g5, (1, 5), 0)
  r6 : read g5 1 0 = (g5, (0, 0), 6)
  lg : ∃ e, g5.log = [e] ∧ e.id = 1 ∧ e.com = true ∧ e.wr.length = 1
  rs : (rest g5).length = 1
  vs : g5.s.length = 2
theorem first_look : ∃ g1 g2 g3 g4 g5, First g1 g2 g3 g4 g5 := by
  have i0 : Inv 0 (new 2 2) := new_inv (by decide) (by decide)
  have n0 : Nx (new 2 2) := new_nx 2 2
  have hf0 : Po.ff (new 2 2).p = some 0 := new_ff (by decide)
  have s0 : (new 2 2).s = [St.fresh, St.fresh] := new_len (by decide)
  have i1 := begun_inv i0 hf0
  have L1 : liveAt (begun (new 2 2) 0) 1 = some 0 := begun_at i0 hf0
  have hx : St.has (begun (new 2 2) 0).s 0 := by show St.has (new 2 2).s 0; rw [s0]; decide
  have w2 := write_one (k := 1) (n := 5) L1 hx i1.len (begun_t _ _) (by decide)
  have i2 : Inv 2 (setT (begun (new 2 2) 0) 0 [⟨0, 1, 5, true⟩]) := by
    have := write_inv (K := 1) i1 (id := 1) (x := 0) (k := 1) (n := 5) ⟨by decide, by decide⟩ ⟨by decide, by decide⟩ ⟨by decide, by decide⟩
    rw [w2] at this
    exact this.mono (by omega)
  generalize hg2 : setT (begun (new 2 2) 0) 0 [⟨0, 1, 5, true⟩] = g2 at *
  have L2 : liveAt g2 1 = some 0 := by rw [← hg2]; exact L1
  have lf2 : Leaf g2.p 0 := by rw [← hg2]; exact begun_leaf i0 hf0
  have t2 : g2.t 0 = [⟨0, 1, 5, true⟩] := by rw [← hg2]; show ud (begun (new 2 2) 0).t 0 _ 0 = _; exact ud_same _ _ _
  have hi2 := (liveAt_some L2).2.1
  obtain ⟨q, m, c3⟩ := commit_one i2 L2 lf2
  have i3 : Inv 3 (closed (wrote g2 0 q) 0 true) := by
    have := commits_inv i2 (by decide) (id := 1)
    rw [c3] at this; exact this
  have hv3 := commit_val i2 hi2 t2 q
  have hc2 : g2.p.count = 1 := by rw [← hg2]; rfl
  have hlog2 : g2.log = [] := by rw [← hg2]; rfl
  have hs2 : g2.s.length = 2 := by rw [← hg2]; show (new 2 2).s.length = 2; rw [s0]; rfl
  have hz2 : g2.p.size = 2 := by rw [← hg2]; rfl
  have hql : q.live.testBit 0 = true := by rw [m.live]; exact hi2
  have hcc : (closed (wrote g2 0 q) 0 true).p.count = 1 ∧ (closed (wrote g2 0 q) 0 true).p.size = 2 := by
    have := closed_count (g := wrote g2 0 q) m.sound hql true
    rw [this.1, this.2]
    exact ⟨m.count.trans hc2, m.size.trans hz2⟩
  have n3 : Nx (closed (wrote g2 0 q) 0 true) := closed_nx (g := wrote g2 0 q) m.sound hql true
  -- nothing is live behind it
  have live3 : (closed (wrote g2 0 q) 0 true).p.live = 0 := by
    apply Sm.ext
    intro j
    rw [Nat.zero_testBit]
    cases hj : (closed (wrote g2 0 q) 0 true).p.live.testBit j with
    | false => rfl
    | true =>
      exfalso
      have h1 := liveAt_of i3.ps hj
      have h2 := (closed_live (g := wrote g2 0 q) m.sound hql).1 h1
      have h3 := (liveAt_some h2.1).2.1
      have h3 : q.live.testBit j = true := h3
      rw [m.live, ← hg2] at h3
      have h3 : (Sm.add 0 ((0 : Nat) : Int)).testBit j = true := h3
      rw [Sm.add_test] at h3
      simp at h3
      exact h2.2 (by omega)
  have rest3 : Sm.count (tkB (closed (wrote g2 0 q) 0 true)) = 0 := by
    have hd : (closed (wrote g2 0 q) 0 true).p.done = 0 := Po.all_go i3.ps live3 (Po.collect_next (shut_sound (g := wrote g2 0 q) m.sound hql true).done64)
    unfold tkB
    rw [live3, hd]
    simp [Sm.count, Sm.items_zero]
  have log3 : (closed (wrote g2 0 q) 0 true).log.length = 1 := by
    have := i3.log
    rw [rest3, hcc.1] at this
    omega
  have hlog : (closed (wrote g2 0 q) 0 true).log = (Po.went (shut (wrote g2 0 q) 0 true).p).map (entry (shut (wrote g2 0 q) 0 true)) := by
    show g2.log ++ _ = _
    rw [hlog2]; rfl
  have hlg : ∃ e, (closed (wrote g2 0 q) 0 true).log = [e] ∧ e.id = 1 ∧ e.com = true ∧ e.wr.length = 1 := by
    rw [hlog] at log3 ⊢
    rw [List.length_map] at log3
    obtain ⟨s, hs⟩ := List.length_eq_one_iff.1 log3
    have h1 := (Po.went_done (shut_sound (g := wrote g2 0 q) m.sound hql true).done64).1 s (by rw [hs]; simp)
    have h2 : (Sm.add q.done ((0 : Nat) : Int)).testBit s = true := h1.2
    rw [Sm.add_test, m.done, show g2.p.done = 0 by rw [← hg2]; rfl] at h2
    simp at h2
    obtain rfl : s = 0 := by omega
    rw [hs]
    refine ⟨_, rfl, ?_, ?_, ?_⟩
    · show q.ids 0 = 1
      rw [m.ids]; exact (liveAt_some L2).2.2
    · show ud g2.c 0 true 0 = true
      exact ud_same _ _ _
    · show (if ud g2.c 0 true 0 = true then Tx.writesL (g2.t 0) else []).length = 1
      rw [ud_same, if_pos rfl, t2]
      rfl
  have hx3 : St.has (closed (wrote g2 0 q) 0 true).s 0 := by
    have := hv3.2
    rw [hs2] at this
    unfold St.has
    rw [this]; decide
  have hlen3 : (closed (wrote g2 0 q) 0 true).s.length = 2 := by rw [hv3.2, hs2]
  generalize hg3 : closed (wrote g2 0 q) 0 true = g3 at *
  obtain ⟨s, hf3⟩ := ff_room (g := g3) i3.ps (by rw [rest_len i3.ps, rest3, hcc.2]; decide)
  have i4 := begun_inv i3 hf3
  obtain ⟨q5, m5, r5⟩ := read_new i3 hf3 hx3
  rw [hcc.1] at r5
  have i5 : Inv 5 (readTo (begun g3 s) s 0 q5) := by
    have := read_inv i4 (id := 1 + 1) (x := 0) ⟨by decide, by decide⟩
    rw [r5] at this
    exact this.mono (by omega)
  have r6 : read (readTo (begun g3 s) s 0 q5) 1 0 = (readTo (begun g3 s) s 0 q5, (0, 0), 6) := by
    have hn : liveAt (readTo (begun g3 s) s 0 q5) 1 = none := by
      rw [more_live (g := begun g3 s) m5]
      cases hq : liveAt (begun g3 s) 1 with
      | none => rfl
      | some j =>
        have h1 := begun_live i3.ps hf3 (by rw [hcc.1]; decide) hq
        have := (liveAt_some h1.1).2.1
        rw [live3, Nat.zero_testBit] at this
        cases this
    unfold read
    rw [hn]
    show (_, (0, 0), whoE _ _) = _
    unfold whoE
    rw [if_neg]
    show ¬ ((1 : Int) < 1 ∨ q5.count < 1)
    rw [m5.count]
    show ¬ ((1 : Int) < 1 ∨ g3.p.count + 1 < 1)
    rw [hcc.1]; decide
  refine ⟨begun (new 2 2) 0, g2, g3, begun g3 s, readTo (begun g3 s) s 0 q5, i0, i1, i2, i3, i4, i5, begin_at hf0, w2, c3, ?_, ?_, r6, ?_, ?_, ?_⟩
  · rw [begin_at hf3, hcc.1]; rfl
  · rw [show (2 : Int) = 1 + 1 from rfl, r5, hv3.1.1, hv3.1.2]
  · obtain ⟨e, he⟩ := hlg; exact ⟨e, he⟩
  · rw [rest_len i5.ps]
    have h1 := i5.log
    have h2 : (readTo (begun g3 s) s 0 q5).log.length = g3.log.length := rfl
    have h3 : (readTo (begun g3 s) s 0 q5).p.count = g3.p.count + 1 := m5.count
    rw [h2, h3, hcc.1, log3] at h1
    omega
  · show (St.markL g3.s 0 (s : Nat)).length = 2
    rw [at_len, hlen3]
end Go.Proofs.YtfdfiiocccafkaaGreatDoor.En
