/-
  Contracts of the document's has, Does and All.
-/
import Derived.Test.YtkbgnapbhboplaaRepLaw
import Derived.Deep.QuietTactic
import Derived.BigQuiet
import Derived.Laws.StructEq
namespace Go.Proofs.Ytkbgnapbhboplaa.Rp
open Go.RowKit Tx
set_option maxHeartbeats 1000000 in
theorem rhas_any (A : Option Addr) (n c : Nat) (x : Int) (w : World) (hx : i64p x) (b : Bool) (hb : (decide (0 ≤ x) && decide (x < (n : Int))) = b) :
    Calls Try.prog 27 #[.slice A n c, .int .i64 x] w fun e w' => e = .returned (.bool b) ∧ w' = w := by
  subst hb
  by_cases h0 : 0 ≤ x
  · have d0 : decide (0 ≤ x) = true := by simpa using h0
    rw [d0]
    by_cases h1 : x < (n : Int)
    · have d1 : decide (x < (n : Int)) = true := by simpa using h1
      rw [d1]
      go_enter Try.func27, Try.ntmps27
      go_wp2
      go_ret
      exact ⟨rfl, rfl⟩
    · have d1 : decide (x < (n : Int)) = false := by simpa using h1
      rw [d1]
      go_enter Try.func27, Try.ntmps27
      go_wp2
      go_ret
      exact ⟨rfl, rfl⟩
  · have d0 : decide (0 ≤ x) = false := by simpa using h0
    rw [d0]
    go_enter Try.func27, Try.ntmps27
    go_wp2
    go_ret
    exact ⟨rfl, rfl⟩
/-- a world that only grew out of another. -/
structure BlK (w0 W : World) : Prop where
  out : Below w0.heap.size w0 W
theorem BlK.below {w0 W W' : World} (h : BlK w0 W) (hb : Below W.heap.size W W') : BlK w0 W' := ⟨h.out.trans (hb.mono h.out.size)⟩
theorem row_one {w : World} {A : Option Addr} {x : Xc} (h : Rn.At encX w A [x]) : ∃ ad, A = some ad ∧ w.cell? ad = some (.int .i64 x.e.id) ∧ w.cell? ⟨ad.block, ad.off + 1, none⟩ = some (.bool x.e.com) ∧ w.cell? ⟨ad.block, ad.off + 2, none⟩ = some (.bool x.e.ovr) ∧ w.cell? ⟨ad.block, ad.off + 3, none⟩ = some (.slice x.A x.e.rd.length x.c) ∧ w.cell? ⟨ad.block, ad.off + 4, none⟩ = some (.slice x.B x.e.wt.length x.d) := by
  obtain ⟨ad, e, h5⟩ := at5 h (j := 0) rfl
  obtain ⟨c0, c1, c2, c3, c4⟩ := h5
  have h0 : ad.add (0 * 5) = ad := by simp [Addr.add]
  rw [h0] at c0 c1 c2 c3 c4
  exact ⟨ad, e, c0, c1, c2, c3, c4⟩
/-- what the document's Does answers. -/
def RdPost (S2 : List Vp) (b : Bool) (w : World) (x : Ending) (w' : World) : Prop := ∃ B d, x = .returned (.tuple #[.slice B S2.length d, .bool b]) ∧ S2.length ≤ d ∧ d ≤ maxLen ∧ Rn.At encV w' B S2 ∧ Below w.heap.size w w'
def NoRd (S : List Vp) (L : List Sp) (k : Nat) : Prop := ∀ j : Nat, j < k → ∀ t, L[j]? = some t → denies S t = false
def NoWt (S : List Vp) (L : List Sp) (k : Nat) : Prop := ∀ j : Nat, j < k → ∀ t, L[j]? = some t → lacks S t = false
theorem any_no {p : Sp → Bool} {L : List Sp} (h : ∀ j : Nat, j < L.length → ∀ t, L[j]? = some t → p t = false) : L.any p = false := by
  rw [List.any_eq_false]
  intro x hx
  obtain ⟨j, hj, rfl⟩ := List.getElem_of_mem hx
  simp [h j hj _ (List.getElem?_eq_getElem hj)]
theorem any_yes {p : Sp → Bool} {L : List Sp} {k : Nat} {s : Sp} (h : L[k]? = some s) (hp : p s = true) : L.any p = true := List.any_eq_true.2 ⟨s, List.mem_of_getElem? h, hp⟩
theorem not_rd {S : List Vp} {e : Ent} {k : Nat} {s : Sp} (h : e.rd[k]? = some s) (hp : denies S s = true) : fits S e = false ∧ doS S e = S := by
  have : fits S e = false := by unfold fits; rw [any_yes h hp]; rfl
  exact ⟨this, by unfold doS; rw [this]; rfl⟩
theorem not_wt {S : List Vp} {e : Ent} {k : Nat} {s : Sp} (h : e.wt[k]? = some s) (hp : lacks S s = true) : fits S e = false ∧ doS S e = S := by
  have : fits S e = false := by unfold fits; rw [any_yes h hp]; simp
  exact ⟨this, by unfold doS; rw [this]; rfl⟩
theorem yes_both {S : List Vp} {e : Ent} (h1 : NoRd S e.rd e.rd.length) (h2 : NoWt S e.wt e.wt.length) : fits S e = true ∧ doS S e = next S e := by
  have : fits S e = true := by unfold fits; rw [any_no h1, any_no h2]; rfl
  exact ⟨this, by unfold doS; rw [this]; rfl⟩
theorem no_succ {p : Sp → Bool} {L : List Sp} {k : Nat} {s : Sp} (h : ∀ j : Nat, j < k → ∀ t, L[j]? = some t → p t = false) (hs : L[k]? = some s) (hp : p s = false) : ∀ j : Nat, j < k + 1 → ∀ t, L[j]? = some t → p t = false := fun j hj t ht => by
  by_cases e : j = k
  · subst e; rw [hs] at ht; obtain rfl := Option.some.inj ht; exact hp
  · exact h j (by omega) t ht
def R1Rel (S : List Vp) (L : List Sp) (b : Nat) (x : Xc) (w : World) (i : Value) (wr : World) : Prop := ∃ k : Nat, k ≤ L.length ∧ i = .int .i64 k ∧ Aside (Below w.heap.size w wr) ∧ Aside (BoxX wr b 36 x) ∧ Aside (NoRd S L k)
def R2Rel (S : List Vp) (L : List Sp) (b : Nat) (x : Xc) (w : World) (i : Value) (wr : World) : Prop := ∃ k : Nat, k ≤ L.length ∧ i = .int .i64 k ∧ Aside (Below w.heap.size w wr) ∧ Aside (BoxX wr b 36 x) ∧ Aside (NoWt S L k)
def R3Rel (S : List Vp) (L : List Sp) (b : Nat) (x : Xc) (w : World) (v i : Value) (wr : World) : Prop := ∃ (k : Nat) (B : Option Addr) (d : Nat), k ≤ L.length ∧ i = .int .i64 k ∧ v = .slice B (put S (L.take k)).length d ∧ (put S (L.take k)).length ≤ d ∧ d ≤ maxLen ∧ Aside (Rn.At encV wr B (put S (L.take k))) ∧ Aside (Below w.heap.size w wr) ∧ Aside (BoxX wr b 36 x)
set_option maxHeartbeats 4000000 in
set_option maxRecDepth 100000 in
theorem rdoes_any (A : Option Addr) (c : Nat) (S : List Vp) (x : Xc) (w : World) (hA : Rn.At encV w A S) (hx : RdX w x) (h1 : x.e.rd.length ≤ 300) (h2 : x.e.wt.length ≤ 300) (hS : S.length ≤ 300) (hc : S.length ≤ c) (hcm : c ≤ maxLen) :
    Calls Try.prog 15 #[.slice A S.length c, .agg #[.int .i64 x.e.id, .bool x.e.com, .bool x.e.ovr, .slice x.A x.e.rd.length x.c, .slice x.B x.e.wt.length x.d]] w (RdPost (doS S x.e) (fits S x.e) w) := by
  have HA := Lib.hid hA
  have HX := Lib.hid hx
  have HC := Lib.hid (show S.length ≤ c ∧ c ≤ maxLen from ⟨hc, hcm⟩)
  have HX0 := Lib.hid (BoxX.new w 36 x)
  have HS0 := Lib.hid (below_new w (.cells (entA x) 36))
  unfold entA at HX0 HS0
  unfold RdPost
  generalize hf : fits S x.e = f
  generalize hd : doS S x.e = S2
  have HF := Lib.hid hf
  have HD := Lib.hid hd
  clear hA hx hc hcm hf hd
  go_enter Try.func15, Try.ntmps15
  go_wp2
  go_loopw [6] (R1Rel S x.e.rd w.heap.size x w) (fun i _ => x.e.rd.length - (intOf i).toNat)
  case atStart => exact ⟨0, Nat.zero_le _, rfl, HS0.out, HX0.out, fun j hj => absurd hj (Nat.not_lt_zero _)⟩
  case round =>
    obtain ⟨k, hk, rfl, HW, HBX, HN⟩ := hrel
    have b3 := HBX.out.c3
    by_cases hlt : k < x.e.rd.length
    · obtain ⟨ad, s, hB, hs, hok, h5⟩ := (HX.out.below HW.out (Nat.le_refl _)).rd.at_.at_ hlt
      obtain ⟨c0, c1, c2, c3⟩ := h5
      rw [hB] at b3
      have HSS := Lib.hid hs
      have HOK := Lib.hid hok
      have HBN := Lib.hid (below_new wr (.cells (stepA s) 67))
      have HST := Lib.hid (stepAt_new wr s 67)
      unfold stepA at HBN HST
      have hlt' : (k : Int) < (x.e.rd.length : Int) := by omega
      have h0 : (0 : Int) ≤ (k : Int) := by omega
      clear hs hok hB
      go_wp2
      obtain ⟨w1, hw1⟩ : ∃ w1, w1 = wr.alloc (.cells #[.int .i64 s.x, .int .i64 s.k, .int .i64 s.n, .bool s.wr] 67) := ⟨_, rfl⟩
      rw [← hw1] at HBN HST ⊢
      clear hw1 c0 c1 c2 c3 b3
      have s0 : w1.cell? ⟨wr.heap.size, 0, none⟩ = some (.int .i64 s.x) := HST.out.c0
      have s1 : w1.cell? ⟨wr.heap.size, 1, none⟩ = some (.int .i64 s.k) := HST.out.c1
      have s2 : w1.cell? ⟨wr.heap.size, 2, none⟩ = some (.int .i64 s.n) := HST.out.c2
      have HW1 := Lib.hid (HW.out.trans (HBN.out.mono HW.out.size))
      have HBX1 := Lib.hid (HBX.out.below HBN.out HBX.out.lt)
      cases hh : has S s.x with
      | false =>
        have hden : denies S s = true := by unfold denies lacks; rw [hh]; rfl
        obtain ⟨e1, e2⟩ := not_rd HSS.out hden
        have e3 := HF.out.symm.trans e1
        have e4 := HD.out.symm.trans e2
        subst e3; subst e4
        have HH := Lib.hid hh
        clear hh hden e1 e2
        go_quiet ((go_at_call 27; exact Calls.quiet_of_same (rhas_any _ _ _ _ _ HOK.out.1 false HH.out)))
        go_wp2
        go_ret2
        exact ⟨A, c, rfl, HC.out.1, HC.out.2, HA.out.below (HW1.out.trans (Tx.below_drewN _ _ _)) (Nat.le_refl _), HW1.out.trans (Tx.below_drewN _ _ _)⟩
      | true =>
        obtain ⟨q0, q1⟩ := (has_iff S s.x).1 hh
        obtain ⟨j, hj⟩ := Int.eq_ofNat_of_zero_le q0
        have hjl : j < S.length := by omega
        obtain ⟨v, hv⟩ : ∃ v, S[j]? = some v := ⟨_, List.getElem?_eq_getElem hjl⟩
        obtain ⟨ad2, hA2, v0, v1⟩ := at2 (HA.out.below HW1.out (Nat.le_refl _)) hv
        have hat : at_ S s.x = some v := by unfold at_; rw [if_pos q0, hj]; exact hv
        have hden : denies S s = decide (v ≠ (s.k, s.n)) := by
          unfold denies lacks; rw [hh, hat]; simp
        have HH := Lib.hid hh
        have HDE := Lib.hid hden
        clear hh hden hat hv
        have HHJ := Lib.hid (show (decide (0 ≤ (j : Int)) && decide ((j : Int) < (S.length : Int))) = true by simp; omega)
        have hji : (j : Int) < (S.length : Int) := by omega
        have hj0 : (0 : Int) ≤ (j : Int) := by omega
        rw [hj] at s0
        have HOKJ := Lib.hid (show i64p (j : Int) by have := HOK.out.1; rwa [hj] at this)
        have HJ := Lib.hid hj
        subst hA2
        clear q0 q1 hj
        by_cases he : v = (s.k, s.n)
        · have hno : denies S s = false := by rw [HDE.out]; simp [he]
          have e0 : v.1 = s.k := by rw [he]
          have e1 : v.2 = s.n := by rw [he]
          rw [e0] at v0
          rw [e1] at v1
          have HNO := Lib.hid hno
          clear hno he e0 e1
          go_quiet ((go_at_call 27; exact Calls.quiet_of_same (rhas_any _ _ _ _ _ HOKJ.out true HHJ.out)))
          go_wp2
          go_roundw
          case rel => exact ⟨k + 1, by omega, by go_num, HW1.out.trans (Tx.below_drewN _ _ _), HBX1.out.below (Tx.below_drewN (w1.heap.size) w1 _) HBX1.out.lt, no_succ HN.out HSS.out HNO.out⟩
          case measure => simp [intOf]; omega
        · have hyes : denies S s = true := by rw [HDE.out]; simp [he]
          obtain ⟨e1, e2⟩ := not_rd HSS.out hyes
          have e3 := HF.out.symm.trans e1
          have e4 := HD.out.symm.trans e2
          subst e3; subst e4
          by_cases h1 : v.1 = s.k
          · have g1 : ¬ v.2 = s.n := fun h2 => he (by obtain ⟨a, b⟩ := v; simp at h1 h2; rw [h1, h2])
            rw [h1] at v0
            clear he hyes e1 e2 h1
            go_quiet ((go_at_call 27; exact Calls.quiet_of_same (rhas_any _ _ _ _ _ HOKJ.out true HHJ.out)))
            go_wp2
            go_ret2
            exact ⟨some ad2, c, rfl, HC.out.1, HC.out.2, HA.out.below (HW1.out.trans (Tx.below_drewN _ _ _)) (Nat.le_refl _), HW1.out.trans (Tx.below_drewN _ _ _)⟩
          · clear he hyes e1 e2
            go_quiet ((go_at_call 27; exact Calls.quiet_of_same (rhas_any _ _ _ _ _ HOKJ.out true HHJ.out)))
            go_wp2
            go_ret2
            exact ⟨some ad2, c, rfl, HC.out.1, HC.out.2, HA.out.below (HW1.out.trans (Tx.below_drewN _ _ _)) (Nat.le_refl _), HW1.out.trans (Tx.below_drewN _ _ _)⟩
    · have hlt' : ¬ (k : Int) < (x.e.rd.length : Int) := by omega
      have HN1 := Lib.hid (show NoRd S x.e.rd x.e.rd.length from fun j hj => HN.out j (by omega))
      go_wp2
      go_loopw [8] (R2Rel S x.e.wt w.heap.size x w) (fun i _ => x.e.wt.length - (intOf i).toNat)
      case atStart => exact ⟨0, Nat.zero_le _, rfl, HW.out, HBX.out, fun j hj => absurd hj (Nat.not_lt_zero _)⟩
      case round =>
        clear b3 hlt hlt' hk HN HBX HW
        obtain ⟨k2, hk, rfl, HW, HBX, HN⟩ := hrel
        have b4 := HBX.out.c4
        by_cases hlt : k2 < x.e.wt.length
        · obtain ⟨ad, s, hB, hs, hok, h5⟩ := (HX.out.below HW.out (Nat.le_refl _)).wt.at_.at_ hlt
          obtain ⟨c0, c1, c2, c3⟩ := h5
          rw [hB] at b4
          have HSS := Lib.hid hs
          have HOK := Lib.hid hok
          have hlt' : (k2 : Int) < (x.e.wt.length : Int) := by omega
          have h0 : (0 : Int) ≤ (k2 : Int) := by omega
          clear hs hok hB
          cases hh : has S s.x with
          | false =>
            have hden : lacks S s = true := by unfold lacks; rw [hh]; rfl
            obtain ⟨e1, e2⟩ := not_wt HSS.out hden
            have e3 := HF.out.symm.trans e1
            have e4 := HD.out.symm.trans e2
            subst e3; subst e4
            have HH := Lib.hid hh
            clear hh hden e1 e2
            go_wp2_with (go_at_call 27; refine (rhas_any _ _ _ _ _ HOK.out.1 false HH.out).mono ?_; rintro e w' ⟨rfl, hw'⟩; rw [hw'])
            go_ret2
            exact ⟨A, c, rfl, HC.out.1, HC.out.2, HA.out.below HW.out (Nat.le_refl _), HW.out⟩
          | true =>
            have HNO := Lib.hid (show lacks S s = false by unfold lacks; rw [hh]; rfl)
            have HH := Lib.hid hh
            clear hh
            go_wp2_with (go_at_call 27; refine (rhas_any _ _ _ _ _ HOK.out.1 true HH.out).mono ?_; rintro e w' ⟨rfl, hw'⟩; rw [hw'])
            go_roundw
            case rel => exact ⟨k2 + 1, by omega, by go_num, HW.out, HBX.out, no_succ HN.out HSS.out HNO.out⟩
            case measure => simp [intOf]; omega
        · have hlt' : ¬ (k2 : Int) < (x.e.wt.length : Int) := by omega
          have HN2 := Lib.hid (show NoWt S x.e.wt x.e.wt.length from fun j hj => HN.out j (by omega))
          have hyb := yes_both HN1.out HN2.out
          have e3 := HF.out.symm.trans hyb.1
          have e4 := HD.out.symm.trans hyb.2
          subst e3
          have b1 := HBX.out.c1
          cases hc : x.e.com with
          | false =>
            have e5 : S2 = S := by rw [e4]; unfold next; rw [hc]; rfl
            subst e5
            rw [hc] at b1
            have HCC := Lib.hid hc
            clear hyb e4 hc
            go_wp2
            go_ret2
            exact ⟨A, c, rfl, HC.out.1, HC.out.2, HA.out.below HW.out (Nat.le_refl _), HW.out⟩
          | true =>
            have e5 : S2 = put S x.e.wt := by rw [e4]; unfold next; rw [hc]; rfl
            rw [hc] at b1
            have HCC := Lib.hid hc
            have HE5 := Lib.hid e5
            clear hyb e4 hc e5
            go_wp2
            go_loopw [0, 9] (R3Rel S x.e.wt w.heap.size x w) (fun _ i _ => x.e.wt.length - (intOf i).toNat)
            case atStart => exact ⟨0, A, c, Nat.zero_le _, rfl, rfl, HC.out.1, HC.out.2, HA.out.below HW.out (Nat.le_refl _), HW.out, HBX.out⟩
            case round =>
              clear b1 hlt hlt' hk HN HBX HW
              obtain ⟨k3, B3, d3, hk, rfl, rfl, hd1, hd2, HP, HW, HBX⟩ := hrel
              have hpl : (put S (x.e.wt.take k3)).length = S.length := put_len _ _
              have HPL := Lib.hid hpl
              obtain ⟨P, hP⟩ : ∃ P, put S (x.e.wt.take k3) = P := ⟨_, rfl⟩
              rw [hP] at hd1 HP hpl ⊢
              have HPE := Lib.hid hP
              have HPLS := Lib.hid hpl
              have HD1 := Lib.hid hd1
              have HD2 := Lib.hid hd2
              clear hP hpl hd1 hd2
              have b4 := HBX.out.c4
              by_cases hlt : k3 < x.e.wt.length
              · obtain ⟨ad, s, hB, hs, hok, h5⟩ := (HX.out.below HW.out (Nat.le_refl _)).wt.at_.at_ hlt
                obtain ⟨c0, c1, c2, c3⟩ := h5
                rw [hB] at b4
                have hls := HN2.out k3 hlt s hs
                obtain ⟨q0, q1⟩ := (has_iff S s.x).1 (by simpa [lacks] using hls)
                obtain ⟨j, hj⟩ := Int.eq_ofNat_of_zero_le q0
                have hjP : j < P.length := by have := HPLS.out; omega
                have HSS := Lib.hid hs
                have HPN := Lib.hid (show put S (x.e.wt.take (k3 + 1)) = P.set j (s.k, s.n) by rw [put_snoc hs, HPE.out, hj, Int.toNat_natCast])
                have HSET := Lib.hid (show P.take j ++ [(s.k, s.n)] ++ P.drop (j + 1) = P.set j (s.k, s.n) by rw [List.set_eq_take_append_cons_drop, if_pos hjP, List.append_assoc]; rfl)
                have HTK := Lib.hid (show (P.take j).length = j by rw [List.length_take]; omega)
                have HDR := Lib.hid (show (P.drop (j + 1)).length = P.length - (j + 1) by rw [List.length_drop])
                rw [hj] at c0
                have hPl300 : P.length ≤ 300 := by have := HPLS.out; omega
                have hji : (j : Int) < (P.length : Int) := by omega
                have hj0 : (0 : Int) ≤ (j : Int) := by omega
                have hjd : j + 1 ≤ d3 := by have := HD1.out; omega
                have hd3 : (d3 : Int) ≤ 9223372036854775807 := by have := HD2.out; unfold maxLen at this; omega
                have hlt' : (k3 : Int) < (x.e.wt.length : Int) := by omega
                have h0 : (0 : Int) ≤ (k3 : Int) := by omega
                obtain ⟨ad2, hA2⟩ : ∃ ad2, B3 = some ad2 := by
                  obtain ⟨ad2, e, _⟩ := HP.out.cell (by omega)
                  exact ⟨ad2, e⟩
                subst hA2
                have HP0 := Lib.hid HP.out
                clear hs hok hB hls q0 q1 hj
                by_cases hd1 : d3 = j + 1
                · subst hd1
                  have HN0 := Lib.hid (show P.length = j + 1 by have := HD1.out; omega)
                  have HE := Lib.hid (show P.drop (j + 1) = [] from List.drop_eq_nil_of_le (by have := HN0.out; omega))
                  go_wp2_with (at_builtin; refine Rn.append_row encV vtR rfl _ _ rfl rfl (Rn.Own.empty wr 63 rfl (Nat.le_refl _)) (some ad2) _ (P.take j) HTK.out rfl ((at_below HP0.out (Rn.below_new wr (.cells #[] 63))).take j) ?c1 ?c2 ?_)
                  case c1 => have := HTK.out; simp; omega
                  case c2 => simp
                  intro v1 w1 ho1 hb1 hs1
                  have HO1 := Lib.hid ho1
                  have HB1 := Lib.hid ((Rn.below_new wr (.cells #[] 63)).trans hb1)
                  clear ho1 hb1 hs1
                  have HX1 := Lib.hid (HBX.out.below HB1.out HBX.out.lt)
                  obtain ⟨ad3, s3, hB3, hs3, hok3, h53⟩ := (HX.out.below (HW.out.trans (HB1.out.mono HW.out.size)) (Nat.le_refl _)).wt.at_.at_ hlt
                  obtain rfl : s = s3 := Option.some.inj (HSS.out.symm.trans hs3)
                  obtain ⟨e0, e1, e2, e3⟩ := h53
                  have b4 := HX1.out.c4
                  rw [hB3] at b4
                  clear hs3 hok3 hB3 c0 c1 c2 c3
                  go_wp2_with (at_builtin; refine Rn.append_row encV vtR rfl _ _ rfl rfl (HO1.out.alloc _) _ _ [(s.k, s.n)] rfl rfl (Rn.At.new _ (s.k, s.n) #[.int .i64 s.k, .int .i64 s.n] rfl _ rfl) ?d1 ?d2 ?_)
                  case d1 => have := HTK.out; simp; omega
                  case d2 => have := HB1.out.size; simp; omega
                  intro v2 w2 ho2 hb2 hs2
                  have HO2 := Lib.hid ho2
                  have HB2 := Lib.hid ((HB1.out.alloc HB1.out.size _).trans hb2)
                  clear ho2 hb2 hs2 e0 e1 e2 e3 b4
                  go_wp2_with (at_builtin; refine Rn.append_row encV vtR rfl _ _ rfl rfl HO2.out (some ad2) _ (P.drop (j + 1)) HDR.out rfl (by rw [HE.out]; exact Rn.At.nil _ _) ?f1 ?f2 ?_)
                  case f1 => have := HTK.out; have := HDR.out; simp; omega
                  case f2 => exact HB2.out.size
                  intro v3 w3 ho3 hb3 hs3
                  have HO3 := Lib.hid (show Rn.Own encV w3 wr.heap.size 63 v3 (P.set j (s.k, s.n)) by rw [← HSET.out]; simpa using ho3)
                  have HB3 := Lib.hid (HB2.out.trans hb3)
                  clear ho3 hb3 hs3
                  obtain ⟨B4, d4, rfl, q1, q2, q3, _⟩ := HO3.out.slice
                  have Q1 := Lib.hid q1
                  have Q2 := Lib.hid q2
                  have Q3 := Lib.hid q3
                  clear q1 q2 q3
                  go_wp2
                  go_roundw
                  case rel => exact ⟨k3 + 1, B4, d4, by omega, by go_num, by rw [HPN.out], by rw [HPN.out]; exact Q1.out, Q2.out, by rw [HPN.out]; exact Q3.out, HW.out.trans (HB3.out.mono HW.out.size), HBX.out.below HB3.out HBX.out.lt⟩
                  case measure => simp [intOf]; omega
                · have hcd : ¬ d3 = j + 1 := hd1
                  go_wp2_with (at_builtin; refine Rn.append_row encV vtR rfl _ _ rfl rfl (Rn.Own.empty wr 63 rfl (Nat.le_refl _)) (some ad2) _ (P.take j) HTK.out rfl ((at_below HP0.out (Rn.below_new wr (.cells #[] 63))).take j) ?c1 ?c2 ?_)
                  case c1 => have := HTK.out; simp; omega
                  case c2 => simp
                  intro v1 w1 ho1 hb1 hs1
                  have HO1 := Lib.hid ho1
                  have HB1 := Lib.hid ((Rn.below_new wr (.cells #[] 63)).trans hb1)
                  clear ho1 hb1 hs1
                  have HX1 := Lib.hid (HBX.out.below HB1.out HBX.out.lt)
                  obtain ⟨ad3, s3, hB3, hs3, hok3, h53⟩ := (HX.out.below (HW.out.trans (HB1.out.mono HW.out.size)) (Nat.le_refl _)).wt.at_.at_ hlt
                  obtain rfl : s = s3 := Option.some.inj (HSS.out.symm.trans hs3)
                  obtain ⟨e0, e1, e2, e3⟩ := h53
                  have b4 := HX1.out.c4
                  rw [hB3] at b4
                  clear hs3 hok3 hB3 c0 c1 c2 c3
                  go_wp2_with (at_builtin; refine Rn.append_row encV vtR rfl _ _ rfl rfl (HO1.out.alloc _) _ _ [(s.k, s.n)] rfl rfl (Rn.At.new _ (s.k, s.n) #[.int .i64 s.k, .int .i64 s.n] rfl _ rfl) ?d1 ?d2 ?_)
                  case d1 => have := HTK.out; simp; omega
                  case d2 => have := HB1.out.size; simp; omega
                  intro v2 w2 ho2 hb2 hs2
                  have HO2 := Lib.hid ho2
                  have HB2 := Lib.hid ((HB1.out.alloc HB1.out.size _).trans hb2)
                  clear ho2 hb2 hs2 e0 e1 e2 e3 b4
                  go_wp2_with (at_builtin; refine Rn.append_row encV vtR rfl _ _ rfl rfl HO2.out _ _ (P.drop (j + 1)) HDR.out rfl ((HP0.out.below HB2.out (Nat.le_refl _)).drop (j + 1)) ?f1 ?f2 ?_)
                  case f1 => have := HTK.out; have := HDR.out; simp; omega
                  case f2 => exact HB2.out.size
                  intro v3 w3 ho3 hb3 hs3
                  have HO3 := Lib.hid (show Rn.Own encV w3 wr.heap.size 63 v3 (P.set j (s.k, s.n)) by rw [← HSET.out]; simpa using ho3)
                  have HB3 := Lib.hid (HB2.out.trans hb3)
                  clear ho3 hb3 hs3
                  obtain ⟨B4, d4, rfl, q1, q2, q3, _⟩ := HO3.out.slice
                  have Q1 := Lib.hid q1
                  have Q2 := Lib.hid q2
                  have Q3 := Lib.hid q3
                  clear q1 q2 q3
                  go_wp2
                  go_roundw
                  case rel => exact ⟨k3 + 1, B4, d4, by omega, by go_num, by rw [HPN.out], by rw [HPN.out]; exact Q1.out, Q2.out, by rw [HPN.out]; exact Q3.out, HW.out.trans (HB3.out.mono HW.out.size), HBX.out.below HB3.out HBX.out.lt⟩
                  case measure => simp [intOf]; omega
              · have hlt' : ¬ (k3 : Int) < (x.e.wt.length : Int) := by omega
                have hall := HPE.out
                rw [List.take_of_length_le (by omega)] at hall
                have e5 := HE5.out.trans hall
                subst e5
                go_wp2
                go_ret2
                exact ⟨B3, d3, rfl, HD1.out, HD2.out, HP.out, HW.out⟩
def RallPost (S2 : List Vp) (n : Int) (w : World) (x : Ending) (w' : World) : Prop := ∃ B d, x = .returned (.tuple #[.slice B S2.length d, .int .i64 n]) ∧ Rn.At encV w' B S2 ∧ Below w.heap.size w w'
def RaRel (S : List Vp) (l : List Ent) (w : World) (v i : Value) (wr : World) : Prop := ∃ (k : Nat) (S' : List Vp) (B : Option Addr) (d : Nat), k ≤ l.length ∧ i = .int .i64 k ∧ v = .slice B S'.length d ∧ S'.length ≤ d ∧ d ≤ maxLen ∧ Aside (Rn.At encV wr B S') ∧ Aside (Stand S l k S') ∧ Aside (Below w.heap.size w wr)
set_option maxHeartbeats 4000000 in
set_option maxRecDepth 100000 in
theorem rall_any (A B : Option Addr) (c d : Nat) (S S2 : List Vp) (n : Int) (X : List Xc) (l : List Ent) (w : World) (hA : Rn.At encV w A S) (hX : ItAt w B X l) (hf : few l) (hl : l.length ≤ 10000) (hS : S.length ≤ 300) (hc : S.length ≤ c) (hcm : c ≤ maxLen) (h1 : allS S l = S2) (h2 : allN S l = n) :
    Calls Try.prog 13 #[.slice A S.length c, .slice B l.length d] w (RallPost S2 n w) := by
  have HA := Lib.hid hA
  have HX := Lib.hid hX
  have HF := Lib.hid hf
  have HAS := Lib.hid h1
  have HAN := Lib.hid h2
  clear hA hX hf h1 h2
  have hN : (l.length : Int) ≤ 9223372036854775807 := by omega
  go_enter Try.func13, Try.ntmps13
  go_wp2
  go_loopw [0, 6] (RaRel S l w) (fun _ i _ => l.length - (intOf i).toNat)
  case atStart => exact ⟨0, S, A, c, Nat.zero_le _, rfl, rfl, hc, hcm, HA.out, Stand.zero _ _, Below.refl _ _⟩
  case round =>
    clear hc hcm
    obtain ⟨k, S', B', d', hk, rfl, rfl, hd1, hd2, HO, HST, HB⟩ := hrel
    have HD1 := Lib.hid hd1
    have HD2 := Lib.hid hd2
    clear hd1 hd2
    by_cases hlt : k < l.length
    · obtain ⟨ad, x, rfl, hXk, hlk, hrd, h5⟩ := (HX.out.below HB.out (Nat.le_refl _)).at_ hlt
      obtain ⟨c0, c1, c2, c3, c4⟩ := h5
      have HLK := Lib.hid hlk
      have HRD := Lib.hid hrd
      have HFW := Lib.hid (HF.out x.e (List.mem_of_getElem? hlk))
      have HL := Lib.hid (show S'.length ≤ 300 by rw [HST.out.len]; exact hS)
      clear hXk hlk hrd
      have hlt' : (k : Int) < (l.length : Int) := by omega
      have h0 : (0 : Int) ≤ (k : Int) := by omega
      cases hf : fits S' x.e with
      | true =>
        have HFT := Lib.hid hf
        have HDO := Lib.hid (show doS S' x.e = next S' x.e by unfold doS; rw [hf]; rfl)
        clear hf
        go_wp2_with fail
        refine (rdoes_any B' d' S' x _ HO.out HRD.out HFW.out.1 HFW.out.2 HL.out HD1.out HD2.out).mono ?_
        rw [HFT.out, HDO.out]
        rintro e w2 ⟨B2, d2, rfl, q1, q2, ho, hb⟩
        have HO2 := Lib.hid ho
        have HB2 := Lib.hid (HB.out.trans (hb.mono HB.out.size))
        have Q1 := Lib.hid q1
        have Q2 := Lib.hid q2
        have HS2 := Lib.hid (HST.out.step HLK.out HFT.out)
        clear ho hb c0 c1 c2 c3 c4 q1 q2
        generalize next S' x.e = S3 at HO2 Q1 HS2 ⊢
        go_wp2
        go_roundw
        case rel => exact ⟨k + 1, S3, B2, d2, by omega, by go_num, rfl, Q1.out, Q2.out, HO2.out, HS2.out, HB2.out⟩
        case measure => simp [intOf]; omega
      | false =>
        have HFT := Lib.hid hf
        have HDO := Lib.hid (show doS S' x.e = S' by unfold doS; rw [hf]; rfl)
        clear hf
        go_wp2_with fail
        refine (rdoes_any B' d' S' x _ HO.out HRD.out HFW.out.1 HFW.out.2 HL.out HD1.out HD2.out).mono ?_
        rw [HFT.out, HDO.out]
        rintro e w2 ⟨B2, d2, rfl, q1, q2, ho, hb⟩
        have HO2 := Lib.hid (HO.out.below hb (Nat.le_refl _))
        have HB2 := Lib.hid (HB.out.trans (hb.mono HB.out.size))
        clear ho hb c0 c1 c2 c3 c4 q1 q2
        obtain ⟨e1, e2⟩ := HST.out.stop HLK.out HFT.out
        have e3 := HAS.out.symm.trans e1
        have e4 := HAN.out.symm.trans e2
        subst e3; subst e4
        go_wp2
        go_ret2
        exact ⟨B', d', rfl, HO2.out, HB2.out⟩
    · have hlt' : ¬ (k : Int) < (l.length : Int) := by omega
      obtain ⟨e1, e2⟩ := HST.out.end_ (by omega)
      have e3 := HAS.out.symm.trans e1
      have e4 := HAN.out.symm.trans e2
      subst e3; subst e4
      go_wp2
      go_ret2
      exact ⟨B', d', rfl, HO.out, HB.out⟩
end Go.Proofs.Ytkbgnapbhboplaa.Rp
