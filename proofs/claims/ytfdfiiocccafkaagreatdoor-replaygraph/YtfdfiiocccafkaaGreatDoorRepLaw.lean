/-
  What the walks of the statements share: the arguments, and contracts in the form that these want.
-/
import Derived.Test.YtfdfiiocccafkaaGreatDoorRepAlive
import Derived.Test.YtfdfiiocccafkaaGreatDoorRepEnts2
import Derived.Test.YtfdfiiocccafkaaGreatDoorRepSame
namespace Go.Proofs.YtfdfiiocccafkaaGreatDoor.Rp
open Go.RowKit Tx
/-- a slice that came in reads as these values. -/
def ValArg (w : World) (A : Option Addr) (n c : Nat) (L : List Vp) : Prop := L.length = n ∧ n ≤ c ∧ c ≤ maxLen ∧ Rn.At encV w A L ∧ ∀ v ∈ L, i64p v.1 ∧ i64p v.2
/-- a slice that came in reads as these entries, each with its steps. -/
def EntArg (w : World) (A : Option Addr) (n c : Nat) (X : List Xc) : Prop := X.length = n ∧ n ≤ c ∧ c ≤ maxLen ∧ Rn.At encX w A X ∧ (∀ x ∈ X, RdX w x) ∧ (A = none → c = 0)
theorem EntArg.open_ {w : World} {A : Option Addr} {n c : Nat} {X : List Xc} (h : EntArg w A n c X) : ∃ L, n = L.length ∧ L.length ≤ c ∧ c ≤ maxLen ∧ ItAt w A X L ∧ (A = none → c = 0) :=
  ⟨X.map (·.e), by rw [List.length_map]; exact h.1.symm, by rw [List.length_map, h.1]; exact h.2.1, h.2.2.1, ⟨h.2.2.2.1, rfl, h.2.2.2.2.1⟩, h.2.2.2.2.2⟩
def VlS (S : List Vp) (w : World) (x : Ending) (w' : World) : Prop := ∃ B d, x = .returned (.slice B S.length d) ∧ Rn.At encV w' B S ∧ Below w.heap.size w w'
theorem VlPost.s {S : List Vp} {e : TypeId} {w : World} {x : Ending} {w' : World} (h : VlPost S e w x w') : VlS S w x w' := by
  obtain ⟨v, rfl, ho, hb⟩ := h
  obtain ⟨B, d, rfl, _, _, hA, _⟩ := ho.slice
  exact ⟨B, d, rfl, hA, hb⟩
theorem valuesV_s (A : Option Addr) (c : Nat) (L : List Vp) (w : World) (h : Rn.At encV w A L) (hl : L.length ≤ 300) : Calls Tryz.prog 13 #[.slice A L.length c] w (VlS L w) := (valuesV_any A c L w h hl).mono fun _ _ h => h.s
def ItS (L : List Ent) (w : World) (x : Ending) (w' : World) : Prop := ∃ B d X, x = .returned (.slice B L.length d) ∧ L.length ≤ d ∧ d ≤ maxLen ∧ ItAt w' B X L ∧ Below w.heap.size w w'
theorem ItPost.s {t : TypeId} {L : List Ent} {w : World} {x : Ending} {w' : World} (h : ItPost t L w x w') : ItS L w x w' := by
  obtain ⟨v, X, rfl, ho, hb⟩ := h
  obtain ⟨B, d, rfl, h1, h2, hA⟩ := ho.slice
  exact ⟨B, d, X, rfl, h1, h2, hA, hb⟩
theorem oursE_s (A : Option Addr) (c : Nat) (X0 : List Xc) (L : List Ent) (w : World) (h : ItAt w A X0 L) (hf : few L) (hl : L.length ≤ 10000) : Calls Tryz.prog 23 #[.slice A L.length c] w (ItS L w) := (ours_ents A c X0 L w h hf hl).mono fun _ _ h => h.s
theorem committed_s (A : Option Addr) (c : Nat) (X0 : List Xc) (L M : List Ent) (w : World) (h : ItAt w A X0 L) (hf : few L) (hl : L.length ≤ 10000) (hM : L.filter (·.com) = M) : Calls Tryz.prog 15 #[.slice A L.length c] w (ItS M w) := hM ▸ (committed_any A c X0 L w h hf hl).mono fun _ _ h => h.s
def AllSp (S2 : List Vp) (n : Int) (w : World) (x : Ending) (w' : World) : Prop := ∃ B d, x = .returned (.tuple #[.slice B S2.length d, .int .i64 n]) ∧ Rn.At encV w' B S2 ∧ Below w.heap.size w w'
theorem all_s (A B : Option Addr) (c d : Nat) (S S2 : List Vp) (n : Int) (X : List Xc) (l : List Ent) (w : World) (hA : Rn.At encV w A S) (hX : ItAt w B X l) (hf : few l) (hl : l.length ≤ 10000) (hS : S.length ≤ 300) (h1 : allS S l = S2) (h2 : allN S l = n) :
    Calls Tryz.prog 8 #[.slice A S.length c, .slice B l.length d] w (AllSp S2 n w) := by
  subst h1; subst h2
  refine (all_any A B c d S X l w hA hX hf hl hS).mono ?_
  rintro e w' ⟨v, rfl, ho, hb⟩
  obtain ⟨B, d, rfl, _, _, hA, _⟩ := ho.slice
  exact ⟨B, d, rfl, hA, hb⟩
def DoesSp (S2 : List Vp) (b : Bool) (w : World) (x : Ending) (w' : World) : Prop := ∃ B d, x = .returned (.tuple #[.slice B S2.length d, .bool b]) ∧ Rn.At encV w' B S2 ∧ Below w.heap.size w w'
theorem does_s (A : Option Addr) (c : Nat) (S S2 : List Vp) (b : Bool) (x : Xc) (w : World) (hA : Rn.At encV w A S) (hx : RdX w x) (h1 : x.e.rd.length ≤ 300) (h2 : x.e.wt.length ≤ 300) (hS : S.length ≤ 300) (e1 : doS S x.e = S2) (e2 : fits S x.e = b) :
    Calls Tryz.prog 25 #[.slice A S.length c, .agg #[.int .i64 x.e.id, .bool x.e.com, .bool x.e.ovr, .slice x.A x.e.rd.length x.c, .slice x.B x.e.wt.length x.d]] w (DoesSp S2 b w) := by
  subst e1; subst e2
  refine (does_any A c S x w hA hx h1 h2 hS).mono ?_
  rintro e w' ⟨v, rfl, ho, hb⟩
  obtain ⟨B, d, rfl, _, _, hA, _⟩ := ho.slice
  exact ⟨B, d, rfl, hA, hb⟩
theorem ItAt.take {w : World} {A : Option Addr} {X : List Xc} {L : List Ent} (h : ItAt w A X L) (k : Nat) : ItAt w A (X.take k) (L.take k) :=
  ⟨h.row.take k, by rw [List.map_take, h.es], fun x hx => h.rd x (List.mem_of_mem_take hx)⟩
theorem ItAt.drop {w : World} {ad : Addr} {X : List Xc} {L : List Ent} (h : ItAt w (some ad) X L) (k : Nat) : ItAt w (some (ad.add (k * 5))) (X.drop k) (L.drop k) :=
  ⟨h.row.drop k, by rw [List.map_drop, h.es], fun x hx => h.rd x (List.mem_of_mem_drop hx)⟩
theorem ItAt.empty (w : World) (A : Option Addr) : ItAt w A [] [] := ⟨Rn.At.nil _ _, rfl, by simp⟩
theorem few_take {L : List Ent} (h : few L) (k : Nat) : few (L.take k) := fun e he => h e (List.mem_of_mem_take he)
theorem few_drop {L : List Ent} (h : few L) (k : Nat) : few (L.drop k) := fun e he => h e (List.mem_of_mem_drop he)
theorem few_filter {L : List Ent} (h : few L) : few (L.filter (·.com)) := fun e he => h e (List.mem_filter.1 he).1
theorem allN_some {S : List Vp} {L : List Ent} {k : Nat} (h : allI S L = some k) : allN S L = (k : Nat) := by unfold allN; rw [h]
theorem allN_none {S : List Vp} {L : List Ent} (h : allI S L = none) : allN S L = -1 := by unfold allN; rw [h]
theorem allN_le (S : List Vp) (L : List Ent) : allN S L ≤ (L.length : Int) ∧ -1 ≤ allN S L := by
  cases h : allI S L with
  | none => rw [allN_none h]; omega
  | some k => rw [allN_some h]; have := allI_lt h; omega
theorem few_twice {L : List Ent} (h : few L) : few (L ++ L) := fun e he => by
  rcases List.mem_append.1 he with h1 | h1 <;> exact h e h1
theorem ge_of {a : Int} (h : 0 ≤ a) : a ≥ 0 := h
/-- facts that go on by '.below' alone. -/
structure VK (A : Option Addr) (L : List Vp) (W : World) : Prop where
  at_ : Rn.At encV W A L
theorem VK.below {A : Option Addr} {L : List Vp} {W W' : World} (h : VK A L W) (hb : Below W.heap.size W W') : VK A L W' := ⟨h.at_.below hb (Nat.le_refl _)⟩
structure IK (A : Option Addr) (X : List Xc) (L : List Ent) (W : World) : Prop where
  at_ : ItAt W A X L
theorem IK.below {A : Option Addr} {X : List Xc} {L : List Ent} {W W' : World} (h : IK A X L W) (hb : Below W.heap.size W W') : IK A X L W' := ⟨h.at_.below hb (Nat.le_refl _)⟩
/-- a whole row behind another one, also an empty one. -/
theorem append_rowG' {α : Type} (E : Rn.Enc α) {t e : TypeId} (T : Rn.VT E t e) {ops : Array Oper} {rest : List Oper} {o : Oper} {a : Act} {Q : Exit → Act → World → Prop} (hgd : o.guard = none) (s x : Operand)
    (ho : o.op = .call { callee := .builtin .append, args := #[s, x], argTypes := #[t, t] }) {W : World} {base : Nat} {v : Value} {L : List α} (hs : a.eval s = v) (hown : Rn.Own E W base e v L)
    (A : Option Addr) (c : Nat) (M : List α) {m : Nat} (hm : M.length = m) (hx : a.eval x = .slice A m c) (hM : Rn.At E W A M) (hlen : L.length + M.length ≤ 100000) (hbase : base ≤ W.heap.size)
    (h : ∀ v' w', Rn.Own E w' base e v' (L ++ M) → W.grownBy w' v.ownBlock → wpList Tryz.prog ops Q rest (a.put o.dst v') w') : wpList Tryz.prog ops Q (o :: rest) a W := by
  subst hm
  obtain ⟨v', w', hr, h2, h3⟩ := Rn.run_append E T o.type hown c hM hlen hbase
  refine wpList_plain hgd fun _ hK => ?_
  unfold Oper.wp execOp
  simp only [ho, resolve, invoke, builtin, Sem.run_bind, Sem.run_pure, Result.andThen_ok, List.map_toArray, List.map_cons, List.map_nil, hs, hx, hr]
  exact hK _ _ (h v' w' h2 h3)
/-- the arguments, in a world that only grew. -/
structure ArgSt (A B : Option Addr) (S : List Vp) (X : List Xc) (L : List Ent) (w W : World) : Prop where
  vals : Rn.At encV W A S
  ents : ItAt W B X L
  bel : Below w.heap.size w W
theorem ArgSt.below {A B : Option Addr} {S : List Vp} {X : List Xc} {L : List Ent} {w W W' : World} (h : ArgSt A B S X L w W) (hb : Below W.heap.size W W') : ArgSt A B S X L w W' :=
  ⟨h.vals.below hb (Nat.le_refl _), h.ents.below hb (Nat.le_refl _), h.bel.trans (hb.mono h.bel.size)⟩
theorem at_below {α : Type} {E : Rn.Enc α} {W W' : World} {A : Option Addr} {L : List α} (h : Rn.At E W A L) (hb : Below W.heap.size W W') : Rn.At E W' A L := h.below hb (Nat.le_refl _)
theorem it_below {W W' : World} {A : Option Addr} {X : List Xc} {L : List Ent} (h : ItAt W A X L) (hb : Below W.heap.size W W') : ItAt W' A X L := h.below hb (Nat.le_refl _)
end Go.Proofs.YtfdfiiocccafkaaGreatDoor.Rp
