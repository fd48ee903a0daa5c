/-
  One read that has another value, of another kind, too: what happened may not be any more.
-/
import Derived.Test.YtaonepbongbhoaaKM
import Derived.Test.YtaonepbongbhoaaKQ
namespace Go.Proofs.Ytaonepbongbhoaa.Jd
open Hi (Ev Cr crs crL run fits note bare entC entF entL stOf stepsF Rw encE)
open Rp (Ent Vp at_ denies allS allI allI_append)
/-- all that a course hangs on: of a read it is not asked whether it bears nothing. -/
def face2 (e : Ev) : Int × Int × Int × Bool × Bool := (e.kd, e.id, e.x, Tx.right e.k e.n, if e.kd = 1 then true else bare e)
theorem face2_fits {l : List Cr} {e f : Ev} (h : face2 e = face2 f) : fits l e = fits l f := by
  unfold face2 at h
  simp only [Prod.mk.injEq] at h
  obtain ⟨h1, h2, h3, h4, h5⟩ := h
  by_cases q : f.kd = 1
  · unfold fits
    rw [h1, h2, h3, h4, q]
    rfl
  · rw [h1, if_neg q, if_neg q] at h5
    unfold fits
    rw [h1, h2, h3, h4, h5]
theorem face2_note {c : Cr} {n : Nat} {e f : Ev} (h : face2 e = face2 f) : note c n e = note c n f := by
  unfold face2 at h
  simp only [Prod.mk.injEq] at h
  obtain ⟨h1, h2, h3, _, _⟩ := h
  unfold note
  rw [h1, h3]
theorem face2_step {l : List Cr} {n : Nat} {e f : Ev} (h : face2 e = face2 f) : Hi.step l n e = Hi.step l n f := by
  have h' := h
  unfold face2 at h'
  simp only [Prod.mk.injEq] at h'
  unfold Hi.step
  rw [h'.1, h'.2.1]
  split
  · rfl
  · split
    · rw [face2_note h]
    · rfl
theorem face2_run : ∀ (L M : List Ev) (n : Nat) (l : List Cr), L.map face2 = M.map face2 → run n l L = run n l M
  | [], [], _, _, _ => rfl
  | [], _ :: _, _, _, h => by cases h
  | _ :: _, [], _, _, h => by cases h
  | e :: L, f :: M, n, l, h => by
    rw [List.map_cons, List.map_cons] at h
    obtain ⟨h1, h2⟩ := List.cons.inj h
    unfold run
    rw [face2_fits h1, face2_step h1, face2_run L M (n + 1) (Hi.step l n f) h2]
theorem face2_crs {L M : List Ev} (h : L.map face2 = M.map face2) : crs L = crs M := by
  have hl : L.length = M.length := by have := congrArg List.length h; simpa using this
  unfold crs
  rw [hl, face2_run L M 0 [] h]
theorem face2_set {L : List Ev} {k : Nat} {e f : Ev} (he : L[k]? = some e) (h : face2 f = face2 e) : (L.set k f).map face2 = L.map face2 := by
  rw [List.map_set, h]
  apply List.ext_getElem?
  intro i
  rw [List.getElem?_set]
  split
  · rename_i hi
    subst hi
    rw [List.getElem?_map, he]
    have := (List.getElem?_eq_some_iff.1 he).1
    simp [this]
  · rfl
/-- the read that has another value: the order fits no more. -/
theorem fit_read2 {L : List Ev} {o : List Int} {k j : Nat} {e f : Ev} {c : Cr} (h : Fit L o) (hl : L.length ≤ 2000) (he : L[k]? = some e) (hj : (crL L)[j]? = some c) (hr : c.rd e.x = some k) (hf : face2 f = face2 e) (hv : (f.k, f.n) ≠ (e.k, e.n)) : ¬ Fit (L.set k f) o := by
  intro hq
  have hrw := h.rw hl
  have hcr : crs (L.set k f) = crs L := face2_crs (face2_set he hf)
  have hcL : crL (L.set k f) = crL L := by unfold crL; rw [hcr]
  have hx := (hrw.okc hj).rd _ _ hr
  obtain ⟨e1, h1, h1k, _⟩ := hrw.rdE hj hr
  rw [he] at h1
  obtain rfl := Option.some.inj h1
  obtain ⟨e2, h2, hid⟩ := rd_id hrw hj hr
  rw [he] at h2
  obtain rfl := Option.some.inj h2
  have hother : ∀ i, i ≠ j → entF (L.set k f) (crL (L.set k f)) i = entF L (crL L) i := fun i hi => by
    rw [hcL]
    unfold entF
    cases hd : (crL L)[i]? with
    | none => rfl
    | some d =>
      refine ent_other (fun x hx => ?_) (fun x hx => ?_)
      · obtain ⟨e3, h3, hid3⟩ := rd_id hrw hd hx
        rw [he] at h3
        obtain rfl := Option.some.inj h3
        omega
      · obtain ⟨e3, h3, hk3, _⟩ := hrw.wrE hd hx
        rw [he] at h3
        obtain rfl := Option.some.inj h3
        omega
  have hin := h.has (List.getElem?_eq_some_iff.1 hj).1
  obtain ⟨p, s, rfl⟩ := List.append_of_mem hin
  have hnd := h.nodup
  rw [List.nodup_append] at hnd
  have hp : ∀ x ∈ p, x ≠ (j : Int) + 1 := fun x hx e => hnd.2.2 x hx _ (by simp) e
  have hpin : ∀ x ∈ p, 1 ≤ x := fun x hx => (h.inn x (by simp [hx])).1
  have e0 : rowO (L.set k f) (p ++ ((j : Int) + 1) :: s) = rowO L p ++ entC (L.set k f) j c :: rowO (L.set k f) s := by
    unfold rowO
    rw [List.map_append, List.map_cons]
    congr 1
    · refine List.map_congr_left fun x hx => hother _ ?_
      have := hp x hx
      have := hpin x hx
      omega
    · congr 1
      rw [hcL, show ((j : Int) + 1 - 1).toNat = j by omega]
      unfold entF
      rw [hj]
  have e1' : rowO L (p ++ ((j : Int) + 1) :: s) = rowO L p ++ entC L j c :: rowO L s := by
    unfold rowO
    rw [List.map_append, List.map_cons]
    congr 2
    rw [show ((j : Int) + 1 - 1).toNat = j by omega]
    unfold entF
    rw [hj]
  have ha := h.all
  rw [e1'] at ha
  obtain ⟨a1, a2⟩ := all_front ha
  have hb := hq.all
  rw [e0] at hb
  exact all_stops a1 (read_denied he hr ⟨hx.1, hx.2.1⟩ hv a2) hb
/-- each event of a row that is right fits where it stands. -/
theorem right_at {a : List Ev} {l : List Cr} (h : run 0 [] a = some l) {k : Nat} {e : Ev} (hk : a[k]? = some e) : ∃ l', Hi.fits l' e = true := by
  obtain ⟨l', hl'⟩ : ∃ l', run 0 [] (a.take k) = some l' := by
    have e : a.take k ++ a.drop k = a := List.take_append_drop _ _
    rw [← e, Hi.run_append] at h
    cases q : run 0 [] (a.take k) with
    | some l' => exact ⟨l', rfl⟩
    | none => rw [q] at h; cases h
  have h2 : run 0 [] (a.take (k + 1)) ≠ none := by
    intro q
    have e : a.take (k + 1) ++ a.drop (k + 1) = a := List.take_append_drop _ _
    rw [← e, Hi.run_append, q] at h
    cases h
  rw [List.take_add_one, hk, Option.toList, Hi.run_snoc hl'] at h2
  by_cases hft : Hi.fits l' e = true
  · exact ⟨l', hft⟩
  · rw [if_neg hft] at h2; exact absurd rfl h2
theorem fits_right {l : List Cr} {e : Ev} (h : Hi.fits l e = true) (hk : e.kd = 1) : Tx.right e.k e.n = true := by
  unfold Hi.fits at h
  rw [hk, if_neg (by decide), if_pos (by decide)] at h
  simp only [Bool.and_eq_true] at h
  exact h.2.2.2
/-- nothing of the same transaction touched the variable ahead of k. -/
def First (L : List Ev) (k : Nat) (e : Ev) : Prop := ∀ (i : Nat) (e' : Ev), i < k → L[i]? = some e' → ¬ ((e'.kd = 1 ∨ e'.kd = 2) ∧ e'.id = e.id ∧ e'.x = e.x)
/-- what happened may not be, if a read that counts has another value. -/
theorem opq_read {L : List Ev} {k : Nat} {e : Ev} {n : Int} (hl : L.length ≤ 2000) (hq : opqB L = true) (he : L[k]? = some e) (h1 : e.kd = 1) (hf : First L k e) (hv : n ≠ e.n) :
    opqB (L.set k ⟨e.kd, e.id, e.x, 1, n⟩) = false := by
  unfold opqB at hq
  rw [Bool.and_eq_true] at hq
  have hF := (fndB_iff L).1 hq.1
  have hT := (fitB_iff L _).1 hq.2
  have hrw := hT.rw hl
  obtain ⟨j, c, hid, hc, hr⟩ := read_counts hrw.run hl k e he h1 hf
  obtain ⟨l', hft⟩ := right_at hrw.run he
  have hface : face2 ⟨e.kd, e.id, e.x, 1, n⟩ = face2 e := by
    unfold face2
    rw [fits_right hft h1, h1]
    rfl
  have hno := fit_read2 (f := ⟨e.kd, e.id, e.x, 1, n⟩) hT hl he hc hr hface (by intro q; exact hv (Prod.mk.inj q).2)
  have hcr : crs (L.set k ⟨e.kd, e.id, e.x, 1, n⟩) = crs L := face2_crs (face2_set he hface)
  have hcL : crL (L.set k ⟨e.kd, e.id, e.x, 1, n⟩) = crL L := by unfold crL; rw [hcr]
  have hfn : fndL (L.set k ⟨e.kd, e.id, e.x, 1, n⟩) = fndL L := by
    have : eL (L.set k ⟨e.kd, e.id, e.x, 1, n⟩) = eL L := by funext i j; unfold eL; rw [hcL]
    unfold fndL
    rw [hcL, this]
  cases hb : opqB (L.set k ⟨e.kd, e.id, e.x, 1, n⟩) with
  | false => rfl
  | true =>
    unfold opqB at hb
    rw [Bool.and_eq_true, hfn] at hb
    exact absurd ((fitB_iff _ _).1 hb.2) hno
/-- what the map says of the first k: nought just where nothing touched. -/
def Tch (L : List Ev) (k : Nat) (f : Int → Int → Int) : Prop := ∀ a x, (0 ≤ f a x ∧ f a x ≤ (k : Int)) ∧ (f a x = 0 → ∀ (i : Nat) (e' : Ev), i < k → L[i]? = some e' → ¬ ((e'.kd = 1 ∨ e'.kd = 2) ∧ e'.id = a ∧ e'.x = x))
theorem Tch.zero (L : List Ev) : Tch L 0 (fun _ _ => 0) := fun a x => ⟨⟨Int.le_refl _, by simp⟩, fun _ i e' hi => by omega⟩
/-- one that touches: one more there. -/
theorem Tch.more {L : List Ev} {k : Nat} {f : Int → Int → Int} {e : Ev} (h : Tch L k f) (he : L[k]? = some e) : Tch L (k + 1) (fun j y => if j = e.id ∧ y = e.x then f e.id e.x + 1 else f j y) := fun a x => by
  by_cases q : a = e.id ∧ x = e.x
  · have := (h e.id e.x).1
    simp only [if_pos q]
    refine ⟨⟨by omega, by omega⟩, fun h0 => by omega⟩
  · simp only [if_neg q]
    have h1 := h a x
    refine ⟨⟨h1.1.1, by omega⟩, fun h0 i e' hi hi' => ?_⟩
    by_cases e2 : i = k
    · subst e2
      rw [he] at hi'
      obtain rfl := Option.some.inj hi'
      exact fun c => q ⟨c.2.1.symm, c.2.2.symm⟩
    · exact h1.2 h0 i e' (by omega) hi'
/-- one that touches what was touched, or touches nothing: the map stays. -/
theorem Tch.stay {L : List Ev} {k : Nat} {f : Int → Int → Int} {e : Ev} (h : Tch L k f) (he : L[k]? = some e) (hn : (e.kd = 1 ∨ e.kd = 2) → f e.id e.x ≠ 0) : Tch L (k + 1) f := fun a x => by
  have h1 := h a x
  refine ⟨⟨h1.1.1, by omega⟩, fun h0 i e' hi hi' => ?_⟩
  by_cases e2 : i = k
  · subst e2
    rw [he] at hi'
    obtain rfl := Option.some.inj hi'
    rintro ⟨c1, rfl, rfl⟩
    exact hn c1 h0
  · exact h1.2 h0 i e' (by omega) hi'
/-- the rows of the numbers of reads that count. -/
def Rds (L : List Ev) (k : Nat) (R : List Int) : Prop := R.length ≤ k ∧ ∀ r ∈ R, ∃ (i : Nat) (e : Ev), r = (i : Int) ∧ i < k ∧ L[i]? = some e ∧ e.kd = 1 ∧ First L i e
theorem Rds.nil (L : List Ev) : Rds L 0 [] := ⟨Nat.le_refl _, by simp⟩
theorem Rds.mono {L : List Ev} {k : Nat} {R : List Int} (h : Rds L k R) : Rds L (k + 1) R := ⟨by have := h.1; omega, fun r hr => by
  obtain ⟨i, e, h1, h2, h3⟩ := h.2 r hr
  exact ⟨i, e, h1, by omega, h3⟩⟩
theorem Rds.add {L : List Ev} {k : Nat} {R : List Int} {e : Ev} {f : Int → Int → Int} (h : Rds L k R) (ht : Tch L k f) (he : L[k]? = some e) (h1 : e.kd = 1) (h0 : f e.id e.x = 0) : Rds L (k + 1) (R ++ [(k : Int)]) := by
  refine ⟨by rw [List.length_append, List.length_singleton]; have := h.1; omega, fun r hr => ?_⟩
  rcases List.mem_append.1 hr with hr | hr
  · exact h.mono.2 r hr
  · obtain rfl := List.mem_singleton.1 hr
    exact ⟨k, e, rfl, by omega, he, h1, fun i e' hi hi' => (ht e.id e.x).2 h0 i e' hi hi'⟩
end Go.Proofs.Ytaonepbongbhoaa.Jd
