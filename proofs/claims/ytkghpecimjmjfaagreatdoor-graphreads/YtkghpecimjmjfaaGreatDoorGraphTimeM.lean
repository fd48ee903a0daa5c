/-
  The mathematics of time: who began behind another one's end stands behind it.
-/
import Derived.Test.YtkghpecimjmjfaaGreatDoorJEm
namespace Go.Proofs.YtkghpecimjmjfaaGreatDoor.En
open Mm Od
def fu (f : Int → Nat) (x : Int) (v : Nat) : Int → Nat := fun y => if y = x then v else f y
def Ord (bg en : Int → Nat) (y x : Int) : Prop := ¬ (0 < en x ∧ en x < bg y)
def idsOf (g : Eng) (L : List Nat) : List Int := g.log.map (·.id) ++ L.map g.p.ids
/-- times of beginnings and ends, but for who is over only now. -/
structure Tw (k : Nat) (g : Eng) (bg en : Int → Nat) : Prop where
  bpos : ∀ id, 0 < bg id ↔ 1 ≤ id ∧ id ≤ g.p.count
  ble : ∀ id, bg id ≤ k
  ele : ∀ id, en id ≤ k
  elive : ∀ i, g.p.live.testBit i = true → en (g.p.ids i) = 0
  enew : ∀ id, g.p.count < id → en id = 0
  nod : ∀ L, Lin g.p L → (idsOf g L).Nodup
  ord : ∀ L, Lin g.p L → (idsOf g L).Pairwise (Ord bg en)
section
variable {k : Nat} {g : Eng} {bg en : Int → Nat}
theorem lin_cons {p : Pl} (hs : Po.Sound p) {s : Nat} (hn : Po.next p = some s) {L : List Nat} (h : Lin (Po.going p s) L) : Lin p (s :: L) := by
  obtain ⟨h32, hd, hE⟩ := Po.next_spec hn
  have htk := Po.going_tk hs h32 hd
  have hns : s ∉ L := fun hx => ((htk s).1 ((h.mem s).1 hx)).2 rfl
  refine ⟨List.nodup_cons.2 ⟨hns, h.nodup⟩, fun i => ?_, ?_⟩
  · rw [List.mem_cons, h.mem, htk]
    constructor
    · rintro (rfl | h1)
      · exact .inr hd
      · exact h1.1
    · intro h1
      by_cases e : i = s
      · exact .inl e
      · exact .inr ⟨h1, e⟩
  · rw [List.pairwise_cons]
    refine ⟨fun b _ => hE b, ?_⟩
    refine h.ord.imp_of_mem fun {a b} ha hb hn he => hn ?_
    have ea : a ≠ s := fun e => hns (e ▸ ha)
    have eb : b ≠ s := fun e => hns (e ▸ hb)
    exact (cut_E hs.mok h32 _ _).2 ⟨he, eb, ea⟩
theorem idsOf_goes (s : Nat) {L : List Nat} (h : s ∉ L) : idsOf (goes g s) L = idsOf g (s :: L) := by
  show (g.log ++ [entry g s]).map (·.id) ++ L.map (Od.upd g.p.ids s 0) = _
  rw [List.map_append]
  show g.log.map (·.id) ++ [g.p.ids s] ++ L.map (Od.upd g.p.ids s 0) = g.log.map (·.id) ++ (g.p.ids s :: L.map g.p.ids)
  rw [List.append_assoc]
  refine congrArg (g.log.map (·.id) ++ ·) (congrArg (g.p.ids s :: ·) (List.map_congr_left fun i hi => ?_))
  unfold Od.upd
  rw [if_neg (fun e => h (by rw [← e]; exact hi))]
theorem goes_tw (hs : Po.Sound g.p) (h : Tw k g bg en) {s : Nat} (hn : Po.next g.p = some s) : Tw k (goes g s) bg en := by
  obtain ⟨h32, hd, hE⟩ := Po.next_spec hn
  have htk := Po.going_tk hs h32 hd
  have hns : ∀ L, Lin (Po.going g.p s) L → s ∉ L := fun L hL hx => ((htk s).1 ((hL.mem s).1 hx)).2 rfl
  refine ⟨h.bpos, h.ble, h.ele, fun i hi => ?_, h.enew, fun L hL => ?_, fun L hL => ?_⟩
  · have hi : g.p.live.testBit i = true := hi
    have e : i ≠ s := fun e => hs.apart i hi (e ▸ hd)
    show en (Od.upd g.p.ids s 0 i) = 0
    unfold Od.upd
    rw [if_neg e]; exact h.elive i hi
  · rw [idsOf_goes s (hns L hL)]; exact h.nod _ (lin_cons hs hn hL)
  · rw [idsOf_goes s (hns L hL)]; exact h.ord _ (lin_cons hs hn hL)
theorem gather_tw (hs : Po.Sound g.p) (h : Tw k g bg en) : Tw k (gather g) bg en :=
  (gather_ind (fun g' => Po.Sound g'.p ∧ Tw k g' bg en) (fun _ _ hP _ hn => ⟨Po.going_sound hP.1 (Po.next_spec hn).1 (Po.next_spec hn).2.1, goes_tw hP.1 hP.2 hn⟩) g hs.done64 ⟨hs, h⟩).2
theorem shut_tw (hs : Po.Sound g.p) (h : Tw k g bg en) {i : Nat} (hi : g.p.live.testBit i = true) (c : Bool) : Tw k (shut g i c) bg en := by
  have htk := Po.ended_tk hs (has_live hs hi)
  have hl : ∀ L, Lin (shut g i c).p L → Lin g.p L := fun L hL => ⟨hL.nodup, fun j => (hL.mem j).trans (htk j), hL.ord⟩
  exact ⟨h.bpos, h.ble, h.ele, fun j hj => h.elive j ((ended_live hs hi j).1 hj).1, h.enew, fun L hL => h.nod L (hl L hL), fun L hL => h.ord L (hl L hL)⟩
theorem closed_tw (hs : Po.Sound g.p) (h : Tw k g bg en) {i : Nat} (hi : g.p.live.testBit i = true) (c : Bool) : Tw k (closed g i c) bg en := gather_tw (shut_sound hs hi c) (shut_tw hs h hi c)
theorem more_tw {g' : Eng} (h : Tw k g bg en) (m : More g.p g'.p) (hl : g'.log = g.log) : Tw k g' bg en := by
  have e : ∀ L, idsOf g' L = idsOf g L := fun L => by unfold idsOf; rw [hl, m.ids]
  refine ⟨fun id => by rw [m.count]; exact h.bpos id, h.ble, h.ele, fun i hi => by rw [m.ids]; rw [m.live] at hi; exact h.elive i hi, fun id hid => h.enew id (by rw [m.count] at hid; exact hid), fun L hL => ?_, fun L hL => ?_⟩
  · rw [e]; exact h.nod L (lin_more m hL)
  · rw [e]; exact h.ord L (lin_more m hL)
theorem Tw.later (h : Tw k g bg en) : Tw (k + 1) g bg en := ⟨h.bpos, fun id => Nat.le_succ_of_le (h.ble id), fun id => Nat.le_succ_of_le (h.ele id), h.elive, h.enew, h.nod, h.ord⟩
theorem begun_tw {K : Int} (hI : Inv K g) (h : Tw k g bg en) {s : Nat} (hf : Po.ff g.p = some s) : Tw (k + 1) (begun g s) (fu bg (g.p.count + 1) (k + 1)) en := by
  have hs := hI.ps
  obtain ⟨h32, hfr, _⟩ := Po.ff_spec hf
  obtain ⟨hsz, hnt⟩ := Po.freeAt_tk hfr
  have htk := fun j => Po.begun_tk (p := g.p) h32 j
  have hB := Po.begun_inv hs h32 hnt
  have ids_s : (begun g s).p.ids s = g.p.count + 1 := by show Od.upd g.p.ids s (g.p.count + 1) s = _; unfold Od.upd; rw [if_pos rfl]
  have ids_o : ∀ j, j ≠ s → (begun g s).p.ids j = g.p.ids j := fun j hj => by show Od.upd g.p.ids s (g.p.count + 1) j = _; unfold Od.upd; rw [if_neg hj]
  have hcp := hs.count
  have split : ∀ L, Lin (begun g s).p L → ∃ A B, L = A ++ s :: B ∧ Lin g.p (A ++ B) ∧ s ∉ A ∧ s ∉ B ∧ ∀ b ∈ B, g.p.live.testBit b = true := by
    intro L hL
    obtain ⟨A, B, rfl⟩ := List.append_of_mem ((hL.mem s).2 ((htk s).2 (.inr rfl)))
    have hn := hL.nodup
    have hsub : (A ++ B).Sublist (A ++ s :: B) := List.Sublist.append (List.Sublist.refl A) (List.sublist_cons_self s B)
    have hn' := hn
    rw [List.nodup_append] at hn'
    have hA : s ∉ A := fun ha => hn'.2.2 s ha s (by simp) rfl
    have hBn : s ∉ B := (List.nodup_cons.1 hn'.2.1).1
    have mem : ∀ i, i ∈ A ++ B ↔ Po.tk g.p i := fun i => by
      have h1 := hL.mem i
      have h2 := htk i
      constructor
      · intro hi
        rcases h2.1 (h1.1 (hsub.subset hi)) with h3 | h3
        · exact h3
        · subst h3
          rcases List.mem_append.1 hi with h4 | h4
          · exact absurd h4 hA
          · exact absurd h4 hBn
      · intro hi
        have h3 := h1.2 (h2.2 (.inl hi))
        rcases List.mem_append.1 h3 with h4 | h4
        · exact List.mem_append_left _ h4
        · rcases List.mem_cons.1 h4 with h5 | h5
          · subst h5; exact absurd hi hnt
          · exact List.mem_append_right _ h5
    refine ⟨A, B, rfl, ⟨hn.sublist hsub, mem, (hL.ord.sublist hsub).imp fun hne he => hne (hB.old _ _ he)⟩, hA, hBn, fun b hb => ?_⟩
    have hord := hL.ord
    rw [List.pairwise_append] at hord
    have h1 := (List.pairwise_cons.1 hord.2.1).1 b hb
    rcases (mem b).1 (List.mem_append_right _ hb) with h2 | h2
    · exact h2
    · exact absurd (hB.has b (Sm.items_mem.2 ⟨by have := hs.tk32 (.inr h2); omega, h2⟩)) h1
  have shape : ∀ A B, s ∉ A → s ∉ B → idsOf (begun g s) (A ++ s :: B) = (g.log.map (·.id) ++ A.map g.p.ids) ++ (g.p.count + 1) :: B.map g.p.ids := by
    intro A B hA hBn
    show g.log.map (·.id) ++ (A ++ s :: B).map (begun g s).p.ids = _
    rw [List.map_append, List.map_cons, ids_s, ← List.append_assoc]
    have e1 : A.map (begun g s).p.ids = A.map g.p.ids := List.map_congr_left fun i hi => ids_o i (fun e => hA (e ▸ hi))
    have e2 : B.map (begun g s).p.ids = B.map g.p.ids := List.map_congr_left fun i hi => ids_o i (fun e => hBn (e ▸ hi))
    rw [e1, e2]
  have shape0 : ∀ A B, idsOf g (A ++ B) = (g.log.map (·.id) ++ A.map g.p.ids) ++ B.map g.p.ids := by
    intro A B
    unfold idsOf
    rw [List.map_append, List.append_assoc]
  have low : ∀ L, Lin g.p L → ∀ x ∈ idsOf g L, x ≤ g.p.count := by
    intro L hL x hx
    rcases List.mem_append.1 hx with h1 | h1
    · obtain ⟨e, he, rfl⟩ := List.mem_map.1 h1
      exact (hI.ent e he).2.2.2
    · obtain ⟨i, hi, rfl⟩ := List.mem_map.1 h1
      exact (hs.ids i (hs.tk32 ((hL.mem i).1 hi))).2
  refine ⟨fun id => ?_, fun id => ?_, fun id => Nat.le_succ_of_le (h.ele id), fun i hi => ?_, fun id hid => ?_, fun L hL => ?_, fun L hL => ?_⟩
  · show 0 < fu bg (g.p.count + 1) (k + 1) id ↔ 1 ≤ id ∧ id ≤ g.p.count + 1
    unfold fu
    by_cases e : id = g.p.count + 1
    · rw [if_pos e]; omega
    · rw [if_neg e, h.bpos]; omega
  · show fu bg (g.p.count + 1) (k + 1) id ≤ k + 1
    unfold fu
    split
    · exact Nat.le_refl _
    · exact Nat.le_succ_of_le (h.ble id)
  · have hi : (Sm.add g.p.live (s : Nat)).testBit i = true := hi
    rw [Sm.add_test] at hi
    simp at hi
    by_cases e : i = s
    · rw [e, ids_s]; exact h.enew _ (by omega)
    · rw [ids_o i e]
      rcases hi with h1 | h1
      · exact h.elive i h1
      · omega
  · have hid : g.p.count + 1 < id := hid
    exact h.enew id (by omega)
  · obtain ⟨A, B, rfl, hL0, hA, hBn, _⟩ := split L hL
    have h0 := h.nod _ hL0
    have hl := low _ hL0
    rw [shape0] at h0 hl
    rw [shape A B hA hBn]
    rw [List.nodup_append] at h0 ⊢
    refine ⟨h0.1, List.nodup_cons.2 ⟨fun hx => ?_, h0.2.1⟩, fun a ha b hb e => ?_⟩
    · have := hl _ (List.mem_append_right _ hx); omega
    · rcases List.mem_cons.1 hb with h1 | h1
      · have := hl _ (List.mem_append_left _ ha); omega
      · exact h0.2.2 a ha b h1 e
  · obtain ⟨A, B, rfl, hL0, hA, hBn, hlive⟩ := split L hL
    have h0 := h.ord _ hL0
    have hl := low _ hL0
    rw [shape0] at h0 hl
    rw [shape A B hA hBn]
    have tr : ∀ y x, y ≤ g.p.count → Ord bg en y x → Ord (fu bg (g.p.count + 1) (k + 1)) en y x := fun y x hy ho => by
      unfold Ord fu
      rw [if_neg (by omega)]
      exact ho
    rw [List.pairwise_append] at h0 ⊢
    refine ⟨h0.1.imp_of_mem fun {y x} hy _ ho => tr y x (hl y (List.mem_append_left _ hy)) ho, List.pairwise_cons.2 ⟨fun x hx => ?_, h0.2.1.imp_of_mem fun {y x} hy _ ho => tr y x (hl y (List.mem_append_right _ hy)) ho⟩, fun y hy x hx => ?_⟩
    · obtain ⟨b, hb, rfl⟩ := List.mem_map.1 hx
      intro ho
      have := h.elive b (hlive b hb)
      omega
    · rcases List.mem_cons.1 hx with h1 | h1
      · subst h1
        intro ho
        have := h.enew (g.p.count + 1) (by omega)
        omega
      · exact tr y x (hl y (List.mem_append_left _ hy)) (h0.2.2 y hy x h1)
/-- times of beginnings and ends. -/
structure Tm (k : Nat) (g : Eng) (bg en : Int → Nat) : Prop where
  tw : Tw k g bg en
  elog : ∀ e ∈ g.log, 0 < en e.id
  edone : ∀ i, g.p.done.testBit i = true → 0 < en (g.p.ids i)
/-- the beginnings behind an act. -/
def bgs (bg : Int → Nat) (k : Nat) (id e : Int) : Int → Nat := if 0 < id ∧ e = 0 then fu bg id (k + 1) else bg
theorem act_tw {K : Int} (hI : Inv K g) (h : Tm k g bg en) (a : Act) : Tw (k + 1) (act g a).1 (bgs bg k (act g a).2.2.1 (act g a).2.2.2) en := by
  have hs := hI.ps
  have h0 := h.tw.later
  refine act_cases (P := fun g' _ n e => Tw (k + 1) g' (bgs bg k n e) en) ?_ ?_ ?_ ?_ ?_ ?_ ?_ ?_ ?_
  · intro e _ _; unfold bgs; rw [if_neg (by omega)]; exact h0
  · intro _ i s _ _ _; unfold bgs; rw [if_neg (by omega)]; exact h0
  · intro i hL _; unfold bgs; rw [if_neg (by omega)]; exact closed_tw hs h0 (liveAt_some hL).2.1 false
  · intro _ i q hL _ _ _ hb; unfold bgs; rw [if_neg (by omega)]; exact more_tw h0 (g' := readTo g i a.x q) (behind_more hs hb).1 rfl
  · intro _ i hL _ _; unfold bgs; rw [if_neg (by omega)]; exact more_tw h0 (g' := setT g i _) (More.refl hs) rfl
  · intro _ i q hL hb
    unfold bgs; rw [if_neg (by omega)]
    have m := (behind_more hs hb).1
    exact closed_tw (g := wrote g i q) m.sound (more_tw h0 (g' := wrote g i q) m rfl) (by show q.live.testBit i = true; rw [m.live]; exact (liveAt_some hL).2.1) true
  · intro _ i hL; unfold bgs; rw [if_neg (by omega)]; exact closed_tw hs h0 (liveAt_some hL).2.1 false
  · intro _ i hL; unfold bgs; rw [if_neg (by omega)]; exact more_tw h0 (g' := setT g i _) (More.refl hs) rfl
  · intro _ s hf
    unfold bgs
    rw [if_pos ⟨by have := hs.count; omega, rfl⟩]
    exact begun_tw hI h.tw hf
/-- the ends behind a look at the entries: those that are over have one. -/
structure Ends (k : Nat) (g : Eng) (en en' : Int → Nat) : Prop where
  old : ∀ id, 0 < en id → en' id = en id
  new : ∀ id, en id = 0 → en' id = 0 ∨ (en' id = k ∧ ∃ x ∈ g.log ++ rest g, x.ovr = true ∧ x.id = id)
  all : ∀ x ∈ g.log ++ rest g, x.ovr = true → 0 < en' x.id
theorem ends_tm {K : Int} (hI : Inv K g) (h : Tw k g bg en) {en' : Int → Nat} (he : Ends k g en en') : Tm k g bg en' := by
  have hs := hI.ps
  have hl := slots_lin hs
  have hn := h.nod _ hl
  have hle : ∀ id, en' id ≤ k := fun id => by
    rcases Nat.eq_zero_or_pos (en id) with h1 | h1
    · rcases he.new id h1 with h2 | h2
      · omega
      · omega
    · rw [he.old id h1]; exact h.ele id
  refine ⟨⟨h.bpos, h.ble, hle, fun i hi => ?_, fun id hid => ?_, h.nod, fun L hL => (h.ord L hL).imp fun {y x} ho hx => ?_⟩, fun e hx => ?_, fun i hi => ?_⟩
  · rcases he.new _ (h.elive i hi) with h1 | ⟨_, x, hx, ho, hxi⟩
    · exact h1
    · exfalso
      rcases List.mem_append.1 hx with h2 | h2
      · unfold idsOf at hn
        rw [List.nodup_append] at hn
        exact hn.2.2 x.id (List.mem_map.2 ⟨x, h2, rfl⟩) (g.p.ids i) (List.mem_map.2 ⟨i, (hl.mem i).2 (.inl hi), rfl⟩) hxi
      · obtain ⟨j, hj, rfl⟩ := List.mem_map.1 h2
        have ho : g.p.done.testBit j = true := ho
        have := hs.uniq j i (.inr ho) (.inl hi) hxi
        subst this
        exact hs.apart j hi ho
  · rcases he.new _ (h.enew id hid) with h1 | ⟨_, x, hx, _, hxi⟩
    · exact h1
    · exfalso
      rcases List.mem_append.1 hx with h2 | h2
      · have := (hI.ent x h2).2.2.2; omega
      · obtain ⟨j, hj, rfl⟩ := List.mem_map.1 h2
        have h3 := (hs.ids j (hs.tk32 ((hl.mem j).1 hj))).2
        have hxi : g.p.ids j = id := hxi
        omega
  · rcases Nat.eq_zero_or_pos (en x) with h1 | h1
    · rcases he.new x h1 with h2 | ⟨h2, _⟩
      · omega
      · have := h.ble y; omega
    · rw [he.old x h1] at hx; exact ho hx
  · exact he.all e (List.mem_append_left _ hx) (hI.ent e hx).2.1
  · have := he.all (entry g i) (List.mem_append_right _ (List.mem_map.2 ⟨i, (hl.mem i).2 (.inr hi), rfl⟩)) hi
    exact this
theorem new_tm {n vars : Int} : Tm 0 (new n vars) (fun _ => 0) (fun _ => 0) := by
  have hnt : ∀ i, ¬ Po.tk (Po.newP n) i := fun i hi => by simp [Po.tk, Po.newP] at hi
  have hL : ∀ L, Lin (new n vars).p L → L = [] := fun L hL => List.eq_nil_iff_forall_not_mem.2 fun i hi => hnt i ((hL.mem i).1 hi)
  refine ⟨⟨fun id => ?_, fun _ => Nat.le_refl _, fun _ => Nat.le_refl _, fun _ _ => rfl, fun _ _ => rfl, fun L h => ?_, fun L h => ?_⟩, fun e he => absurd he List.not_mem_nil, fun i hi => absurd (.inr hi) (hnt i)⟩
  · show 0 < 0 ↔ 1 ≤ id ∧ id ≤ 0
    omega
  · rw [hL L h]; exact List.nodup_nil
  · rw [hL L h]; exact List.Pairwise.nil
/-- what the last look asks. -/
theorem Tm.fin {K : Int} (hI : Inv K g) (h : Tm k g bg en) : (g.log ++ rest g).Pairwise fun y x => x.id ≠ y.id ∧ ¬ (0 < en x.id ∧ en x.id < bg y.id) := by
  have hl := slots_lin hI.ps
  have e : idsOf g (slots g) = (g.log ++ rest g).map (·.id) := by
    unfold idsOf rest
    rw [List.map_append, List.map_map]; rfl
  have h1 := h.tw.nod _ hl
  have h2 := h.tw.ord _ hl
  rw [e] at h1 h2
  rw [List.Nodup, List.pairwise_map] at h1
  rw [List.pairwise_map] at h2
  exact (h1.and h2).imp fun ⟨a, b⟩ => ⟨fun e => a e.symm, b⟩
end
end Go.Proofs.YtkghpecimjmjfaaGreatDoor.En
