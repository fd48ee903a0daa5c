/-
  Plain mathematics of an edge more in a sorted graph: who is fore, who is hind, what comes of it. Nothing of the program.
-/
import Derived.Test.YtakoceablbgchaaDoorTopoMath
namespace Go.Proofs.YtakoceablbgchaaDoor.Od
open Go.Proofs.YtakoceablbgchaaDoor Go.Proofs.YtakoceablbgchaaDoor.Mm
/-- a node whose place is from that of b to that of a. -/
def In (o : O) (a b i : Nat) : Prop := i < 32 ∧ o b ≤ o i ∧ o i ≤ o a
def near (m : Gr) (o : O) (a b i j : Nat) : Prop := E m i j ∧ In o a b i ∧ In o a b j
noncomputable def fore (m : Gr) (o : O) (a b : Nat) : Nat := Sm.add (ways (near m o a b) b) (b : Int)
noncomputable def hind (m : Gr) (o : O) (a b : Nat) : Nat := Sm.add (ways (fun i j => near m o a b j i) a) (a : Int)
def band (o : O) (lo hi : Int) (n : Nat) : Nat := mk (fun i => decide (lo ≤ o i) && decide (o i ≤ hi)) n
theorem band_lt (o : O) (lo hi : Int) : band o lo hi 32 < 4294967296 := lt32 fun j h => by
  unfold band at h
  rw [mk_test _ _ _ (by decide)] at h
  simp at h
  exact h.1
theorem band_test (o : O) (a b j : Nat) : (band o (o b) (o a) 32).testBit j = true ↔ In o a b j := by
  unfold band In
  rw [mk_test _ _ _ (by decide)]
  simp
section
variable {m : Gr} {o : O} {a b : Nat}
theorem fore_test (hb : b < 32) (j : Nat) : (fore m o a b).testBit j = true ↔ j = b ∨ (j < 32 ∧ W (near m o a b) b j) := by
  unfold fore
  rw [add_same hb, Bool.or_eq_true, ways_test]
  simp
  exact Or.comm
theorem hind_test (ha : a < 32) (j : Nat) : (hind m o a b).testBit j = true ↔ j = a ∨ (j < 32 ∧ W (near m o a b) j a) := by
  unfold hind
  rw [add_same ha, Bool.or_eq_true, ways_test]
  simp
  constructor
  · rintro (⟨h1, h2⟩ | h)
    · exact .inr ⟨h1, h2.flip⟩
    · exact .inl h
  · rintro (h | ⟨h1, h2⟩)
    · exact .inr h
    · exact .inl ⟨h1, h2.flip⟩
theorem fore_lt (hb : b < 32) : fore m o a b < 4294967296 := lt32 fun j h => by
  rcases (fore_test hb j).1 h with rfl | h
  · exact hb
  · exact h.1
theorem hind_lt (ha : a < 32) : hind m o a b < 4294967296 := lt32 fun j h => by
  rcases (hind_test ha j).1 h with rfl | h
  · exact ha
  · exact h.1
theorem W.tail_in {i j : Nat} (h : W (near m o a b) i j) : In o a b j := by
  cases h with
  | one h' => exact h'.2.2
  | more _ h' => exact h'.2.2
theorem W.head_in {i j : Nat} (h : W (near m o a b) i j) : In o a b i := by
  rcases h.cases_head with h1 | ⟨k, h1, _⟩
  · exact h1.2.1
  · exact h1.2.1
theorem fore_in (hb : b < 32) (hle : o b ≤ o a) {j : Nat} (h : (fore m o a b).testBit j = true) : In o a b j := by
  rcases (fore_test hb j).1 h with rfl | h
  · exact ⟨hb, Int.le_refl _, hle⟩
  · exact W.tail_in h.2
theorem hind_in (ha : a < 32) (hle : o b ≤ o a) {j : Nat} (h : (hind m o a b).testBit j = true) : In o a b j := by
  rcases (hind_test ha j).1 h with rfl | h
  · exact ⟨ha, hle, Int.le_refl _⟩
  · exact W.head_in h.2
theorem fore_step (hb : b < 32) (hle : o b ≤ o a) {i j : Nat} (h : (fore m o a b).testBit i = true) (he : E m i j) (hj : In o a b j) : (fore m o a b).testBit j = true := by
  have hi := fore_in hb hle h
  refine (fore_test hb j).2 (.inr ⟨hj.1, ?_⟩)
  rcases (fore_test hb i).1 h with rfl | h
  · exact .one ⟨he, hi, hj⟩
  · exact .more h.2 ⟨he, hi, hj⟩
theorem hind_step (ha : a < 32) (hle : o b ≤ o a) {i j : Nat} (h : (hind m o a b).testBit j = true) (he : E m i j) (hi : In o a b i) : (hind m o a b).testBit i = true := by
  have hj := hind_in ha hle h
  refine (hind_test ha i).2 (.inr ⟨hi.1, ?_⟩)
  rcases (hind_test ha j).1 h with rfl | h
  · exact .one ⟨he, hi, hj⟩
  · exact W.head ⟨he, hi, hj⟩ h.2
theorem one_test {b : Nat} (hb : b < 32) (j : Nat) : (Sm.add 0 (b : Int)).testBit j = true ↔ j = b := by
  rw [add_same hb]; simp
theorem least_fore (hb : b < 32) (hle : o b ≤ o a) : Least (fun c => band o (o b) (o a) 32 &&& outs m c) (Sm.add 0 (b : Int)) (fore m o a b) := by
  refine ⟨fun j hj => ?_, fun i j hi hj => ?_, fun S h1 h2 j hj => ?_⟩
  · rw [(one_test hb j).1 hj]; exact (fore_test hb b).2 (.inl rfl)
  · rw [Nat.testBit_and, Bool.and_eq_true] at hj
    exact fore_step hb hle hi ((outs_test m i j).1 hj.2) ((band_test o a b j).1 hj.1)
  · have hbS : S.testBit b = true := h1 b ((one_test hb b).2 rfl)
    rcases (fore_test hb j).1 hj with rfl | ⟨h32, hw⟩
    · exact hbS
    · clear hj h32
      induction hw with
      | one h' => exact h2 _ _ hbS (by rw [Nat.testBit_and, (band_test o a b _).2 h'.2.2, (outs_test m _ _).2 h'.1]; rfl)
      | more _ h' ih => exact h2 _ _ ih (by rw [Nat.testBit_and, (band_test o a b _).2 h'.2.2, (outs_test m _ _).2 h'.1]; rfl)
theorem least_hind (ha : a < 32) (hle : o b ≤ o a) : Least (fun c => band o (o b) (o a) 32 &&& Mm.ins m c) (Sm.add 0 (a : Int)) (hind m o a b) := by
  refine ⟨fun j hj => ?_, fun i j hi hj => ?_, fun S h1 h2 j hj => ?_⟩
  · rw [(one_test ha j).1 hj]; exact (hind_test ha a).2 (.inl rfl)
  · rw [Nat.testBit_and, Bool.and_eq_true] at hj
    exact hind_step ha hle hi ((ins_test m i j).1 hj.2) ((band_test o a b j).1 hj.1)
  · have haS : S.testBit a = true := h1 a ((one_test ha a).2 rfl)
    rcases (hind_test ha j).1 hj with rfl | ⟨h32, hw⟩
    · exact haS
    · have hw' := hw.flip
      clear hj hw h32
      induction hw' with
      | one h' => exact h2 _ _ haS (by rw [Nat.testBit_and, (band_test o a b _).2 h'.2.1, (ins_test m _ _).2 h'.1]; rfl)
      | more _ h' ih => exact h2 _ _ ih (by rw [Nat.testBit_and, (band_test o a b _).2 h'.2.1, (ins_test m _ _).2 h'.1]; rfl)
theorem both_apart (ha : a < 32) (hb : b < 32) (hf : (fore m o a b).testBit a = false) : Apart (hind m o a b) (fore m o a b) := by
  rintro i _ ⟨h1, h2⟩
  have hna : ¬ (fore m o a b).testBit a = true := by rw [hf]; simp
  rcases (hind_test ha i).1 h1 with rfl | ⟨_, h1⟩
  · exact hna h2
  · refine hna ((fore_test hb a).2 (.inr ⟨ha, ?_⟩))
    rcases (fore_test hb i).1 h2 with rfl | ⟨_, h2⟩
    · exact h1
    · exact h2.trans h1
noncomputable def moved (m : Gr) (o : O) (a b : Nat) : O := relay o (hind m o a b) (fore m o a b)
theorem places_in (h : Right o) (ha : a < 32) (hb : b < 32) (hle : o b ≤ o a) {p : Nat} (hp : p ∈ placesOf o (hind m o a b ||| fore m o a b)) : o b ≤ (p : Int) ∧ (p : Int) ≤ o a := by
  have hp := places_mem.1 hp
  have hsp := at_spec h hp.1
  rw [Nat.testBit_or, Bool.or_eq_true] at hp
  have hin : In o a b (at_ o p) := by
    rcases hp.2 with h1 | h1
    · exact hind_in ha hle h1
    · exact fore_in hb hle h1
  rw [← hsp.2]
  exact hin.2
theorem moved_right (h : Right o) (ha : a < 32) (hb : b < 32) (hf : (fore m o a b).testBit a = false) : Right (moved m o a b) := relay_right h (both_apart ha hb hf)
theorem moved_out (h : Right o) (ha : a < 32) (hb : b < 32) (hle : o b ≤ o a) {i : Nat} (hi : ¬ In o a b i) : moved m o a b i = o i := by
  refine relay_out h ?_ ?_
  · cases hh : (hind m o a b).testBit i
    · rfl
    · exact absurd (hind_in ha hle hh) hi
  · cases hh : (fore m o a b).testBit i
    · rfl
    · exact absurd (fore_in hb hle hh) hi
theorem moved_in (h : Right o) (ha : a < 32) (hb : b < 32) (hle : o b ≤ o a) (hf : (fore m o a b).testBit a = false) {i : Nat} (hi : In o a b i) : o b ≤ moved m o a b i ∧ moved m o a b i ≤ o a := by
  by_cases hs : (hind m o a b).testBit i = true ∨ (fore m o a b).testBit i = true
  · obtain ⟨p, hp, e⟩ := relay_mem h (both_apart ha hb hf) hi.1 hs
    have := places_in h ha hb hle hp
    unfold moved
    rw [e]; exact this
  · have h1 : (hind m o a b).testBit i = false := by
      cases hh : (hind m o a b).testBit i
      · rfl
      · exact absurd (.inl hh) hs
    have h2 : (fore m o a b).testBit i = false := by
      cases hh : (fore m o a b).testBit i
      · rfl
      · exact absurd (.inr hh) hs
    unfold moved
    rw [relay_out h h1 h2]
    exact hi.2
theorem moved_new (h : Right o) (ha : a < 32) (hb : b < 32) (hf : (fore m o a b).testBit a = false) : moved m o a b a < moved m o a b b :=
  relay_hf h (both_apart ha hb hf) ha hb ((hind_test ha a).2 (.inl rfl)) ((fore_test hb b).2 (.inl rfl))
theorem moved_old (hs : Sorted m o) (ha : a < 32) (hb : b < 32) (hle : o b ≤ o a) (hf : (fore m o a b).testBit a = false) {i j : Nat} (he : E m i j) : moved m o a b i < moved m o a b j := by
  have h := hs.1
  have hap := both_apart (m := m) (o := o) ha hb hf
  have hlt := hs.2 i j he
  have hi := he.1
  have hj := he.2.1
  by_cases iH : (hind m o a b).testBit i = true
  · by_cases jH : (hind m o a b).testBit j = true
    · exact relay_hh h hap hi hj iH jH hlt
    · by_cases jF : (fore m o a b).testBit j = true
      · exact relay_hf h hap hi hj iH jF
      · have h1 := relay_low h hap hi iH
        have h2 : relay o (hind m o a b) (fore m o a b) j = o j := relay_out h (by simpa using jH) (by simpa using jF)
        unfold moved; omega
  · by_cases iF : (fore m o a b).testBit i = true
    · by_cases jF : (fore m o a b).testBit j = true
      · exact relay_ff h hap hi hj iF jF hlt
      · have hout : ¬ In o a b j := fun hin => jF (fore_step hb hle iF he hin)
        have h1 := moved_in h ha hb hle hf (fore_in hb hle iF)
        have h2 := moved_out (m := m) h ha hb hle hout
        have h3 := (fore_in hb hle iF).2
        have h4 : ¬ (o b ≤ o j ∧ o j ≤ o a) := fun hq => hout ⟨hj, hq⟩
        rw [h2]; omega
    · have h1 : moved m o a b i = o i := relay_out h (by simpa using iH) (by simpa using iF)
      by_cases jH : (hind m o a b).testBit j = true
      · have hout : ¬ In o a b i := fun hin => iH (hind_step ha hle jH he hin)
        have h2 := moved_in h ha hb hle hf (hind_in ha hle jH)
        have h3 := (hind_in ha hle jH).2
        have h4 : ¬ (o b ≤ o i ∧ o i ≤ o a) := fun hq => hout ⟨hi, hq⟩
        rw [h1]; omega
      · by_cases jF : (fore m o a b).testBit j = true
        · have h2 := relay_high h hap hj jF
          rw [h1]; unfold moved; omega
        · have h2 : moved m o a b j = o j := relay_out h (by simpa using jH) (by simpa using jF)
          rw [h1, h2]; exact hlt
theorem put_sorted (hs : Sorted m o) (ha : a < 32) (hb : b < 32) (hlt : o a < o b) : Sorted (put m a b) o :=
  ⟨hs.1, fun i j he => by
    rcases (put_E ha hb i j).1 he with h1 | ⟨rfl, rfl⟩
    · exact hs.2 i j h1
    · exact hlt⟩
theorem moved_sorted (hs : Sorted m o) (ha : a < 32) (hb : b < 32) (hle : o b ≤ o a) (hf : (fore m o a b).testBit a = false) : Sorted (put m a b) (moved m o a b) :=
  ⟨moved_right hs.1 ha hb hf, fun i j he => by
    rcases (put_E ha hb i j).1 he with h1 | ⟨rfl, rfl⟩
    · exact moved_old hs ha hb hle hf h1
    · exact moved_new hs.1 ha hb hf⟩
theorem sorted_way (hs : Sorted m o) {i j : Nat} (h : W (E m) i j) : o i < o j := by
  induction h with
  | one h' => exact hs.2 _ _ h'
  | more _ h' ih => have := hs.2 _ _ h'; omega
theorem sorted_free (hs : Sorted m o) : free m = true := (free_iff m).2 fun i hw => by
  have := sorted_way hs hw; omega
theorem fore_closes (hs : Sorted m o) (ha : a < 32) (hb : b < 32) (hab : a ≠ b) (hf : (fore m o a b).testBit a = true) : free (put m a b) = false := by
  rw [put_closes ha hb hab (sorted_free hs), Sm.has_nat _ (ways_lt _ _)]
  rcases (fore_test hb a).1 hf with h | ⟨_, hw⟩
  · exact absurd h hab
  · rw [(ways_test _ _ _).2 ⟨ha, hw.mono fun _ _ h => h.1⟩]; rfl
end
/-- may there be an edge from a to b? -/
def May (a b : Int) : Prop := (0 ≤ a ∧ a < 32) ∧ (0 ≤ b ∧ b < 32) ∧ a ≠ b
open Classical in
/-- the graph and the order with an edge more, and whether there is one. -/
noncomputable def insert (m : Gr) (o : O) (a b : Int) : Gr × O × Bool :=
  if May a b ∧ Sorted m o then
    if o a.toNat < o b.toNat then (put m a.toNat b.toNat, o, true)
    else if (fore m o a.toNat b.toNat).testBit a.toNat = true then (m, o, false)
    else (put m a.toNat b.toNat, moved m o a.toNat b.toNat, true)
  else (m, o, false)
theorem insert_no {m : Gr} {o : O} {a b : Int} (h : ¬ (May a b ∧ Sorted m o)) : insert m o a b = (m, o, false) := by unfold insert; rw [if_neg h]
theorem may_nat {a b : Nat} (ha : a < 32) (hb : b < 32) (hab : a ≠ b) : May (a : Int) (b : Int) := ⟨by omega, by omega, by omega⟩
theorem insert_up {m : Gr} {o : O} {a b : Nat} (ha : a < 32) (hb : b < 32) (hab : a ≠ b) (hs : Sorted m o) (hlt : o a < o b) : insert m o a b = (put m a b, o, true) := by
  unfold insert
  rw [if_pos ⟨may_nat ha hb hab, hs⟩]
  simp only [Int.toNat_natCast]
  rw [if_pos hlt]
theorem insert_round {m : Gr} {o : O} {a b : Nat} (ha : a < 32) (hb : b < 32) (hab : a ≠ b) (hs : Sorted m o) (hlt : o b ≤ o a) (hf : (fore m o a b).testBit a = true) : insert m o a b = (m, o, false) := by
  unfold insert
  rw [if_pos ⟨may_nat ha hb hab, hs⟩]
  simp only [Int.toNat_natCast]
  rw [if_neg (by omega), if_pos hf]
theorem insert_down {m : Gr} {o : O} {a b : Nat} (ha : a < 32) (hb : b < 32) (hab : a ≠ b) (hs : Sorted m o) (hlt : o b ≤ o a) (hf : (fore m o a b).testBit a = false) : insert m o a b = (put m a b, moved m o a b, true) := by
  unfold insert
  rw [if_pos ⟨may_nat ha hb hab, hs⟩]
  simp only [Int.toNat_natCast]
  rw [if_neg (by omega), if_neg (by rw [hf]; simp)]
theorem insert_cases (m : Gr) (o : O) (a b : Int) (P : Gr × O × Bool → Prop) (h1 : ¬ (May a b ∧ Sorted m o) → P (m, o, false))
    (h2 : ∀ x y : Nat, a = (x : Int) → b = (y : Int) → x < 32 → y < 32 → x ≠ y → Sorted m o → o x < o y → P (put m x y, o, true))
    (h3 : ∀ x y : Nat, a = (x : Int) → b = (y : Int) → x < 32 → y < 32 → x ≠ y → Sorted m o → o y ≤ o x → (fore m o x y).testBit x = true → P (m, o, false))
    (h4 : ∀ x y : Nat, a = (x : Int) → b = (y : Int) → x < 32 → y < 32 → x ≠ y → Sorted m o → o y ≤ o x → (fore m o x y).testBit x = false → P (put m x y, moved m o x y, true)) : P (insert m o a b) := by
  by_cases h : May a b ∧ Sorted m o
  · obtain ⟨⟨⟨a0, a1⟩, ⟨b0, b1⟩, hne⟩, hs⟩ := h
    obtain ⟨x, rfl⟩ := Int.eq_ofNat_of_zero_le a0
    obtain ⟨y, rfl⟩ := Int.eq_ofNat_of_zero_le b0
    have hx : x < 32 := by omega
    have hy : y < 32 := by omega
    have hxy : x ≠ y := by omega
    by_cases hlt : o x < o y
    · rw [insert_up hx hy hxy hs hlt]; exact h2 x y rfl rfl hx hy hxy hs hlt
    · cases hf : (fore m o x y).testBit x
      · rw [insert_down hx hy hxy hs (by omega) hf]; exact h4 x y rfl rfl hx hy hxy hs (by omega) hf
      · rw [insert_round hx hy hxy hs (by omega) hf]; exact h3 x y rfl rfl hx hy hxy hs (by omega) hf
  · rw [insert_no h]; exact h1 h
theorem insert_sorted {m : Gr} {o : O} (a b : Int) (hs : Sorted m o) : Sorted (insert m o a b).1 (insert m o a b).2.1 :=
  insert_cases m o a b (fun r => Sorted r.1 r.2.1) (fun _ => hs) (fun _ _ _ _ hx hy _ _ hlt => put_sorted hs hx hy hlt) (fun _ _ _ _ _ _ _ _ _ _ => hs)
    (fun _ _ _ _ hx hy _ _ hle hf => moved_sorted hs hx hy hle hf)
theorem insert_ok {m : Gr} {o : O} (a b : Int) (hm : Mm.Ok m) : Mm.Ok (insert m o a b).1 :=
  insert_cases m o a b (fun r => Mm.Ok r.1) (fun _ => hm) (fun _ _ _ _ _ _ _ _ _ => put_ok _ _ hm) (fun _ _ _ _ _ _ _ _ _ _ => hm) (fun _ _ _ _ _ _ _ _ _ _ => put_ok _ _ hm)
theorem insert_okO {m : Gr} {o : O} (a b : Int) (ho : Ok o) : Ok (insert m o a b).2.1 :=
  insert_cases m o a b (fun r => Ok r.2.1) (fun _ => ho) (fun _ _ _ _ _ _ _ _ _ => ho) (fun _ _ _ _ _ _ _ _ _ _ => ho) (fun _ _ _ _ hx hy _ hs _ hf => (moved_right hs.1 hx hy hf).ok)
def newO : O := fun i => (i : Int)
theorem new_right : Right newO := fun p hp => ⟨p, hp, rfl⟩
theorem new_sorted {m : Gr} (h : ∀ i j, ¬ E m i j) : Sorted m newO := ⟨new_right, fun i j he => absurd he (h i j)⟩
open Classical in
noncomputable def rightB (o : O) : Bool := decide (Right o)
open Classical in
noncomputable def sortedB (m : Gr) (o : O) : Bool := decide (Sorted m o)
theorem rightB_yes {o : O} (h : Right o) : rightB o = true := by unfold rightB; simp [h]
theorem rightB_no {o : O} (h : ¬ Right o) : rightB o = false := by unfold rightB; simp [h]
theorem sortedB_yes {m : Gr} {o : O} (h : Sorted m o) : sortedB m o = true := by unfold sortedB; simp [h]
theorem sortedB_no {m : Gr} {o : O} (h : ¬ Sorted m o) : sortedB m o = false := by unfold sortedB; simp [h]
theorem rightB_iff (o : O) : rightB o = true ↔ Right o := by unfold rightB; simp
theorem sortedB_iff (m : Gr) (o : O) : sortedB m o = true ↔ Sorted m o := by unfold sortedB; simp
end Go.Proofs.YtakoceablbgchaaDoor.Od
