/-
  The contract of courses: how all transactions of a row of events went.
  Contracts of Right, Ids and Spans; rows that are made at full length and filled in order.
-/
import Derived.Test.YtaonepbongbhoaaKF
import Derived.Test.YtaonepbongbhoaaKB
namespace Go.Proofs.Ytaonepbongbhoaa.Hi
open Go.RowKit
open Tx (i64p right)
open Az
def CrsPost (L : List Ev) (w : World) (r : Ending) (w' : World) : Prop := ∃ v X, r = .returned (.tuple #[v, .bool (crs L).isSome]) ∧ OwnC w' w.heap.size v X 2000 ∧ cs X = crL L ∧ Below w.heap.size w w'
def CrRel (L : List Ev) (w : World) (v i : Value) (wr : World) : Prop := ∃ (k : Nat) (X : List Co), k ≤ L.length ∧ i = .int .i64 k ∧ OwnC wr w.heap.size v X k ∧ run 0 [] (L.take k) = some (cs X) ∧ Below w.heap.size w wr
/-- the event's box and the row of courses. -/
structure CSt (w wr : World) (v : Value) (X : List Co) (k : Nat) (e : Ev) (W : World) : Prop where
  eb : EB wr e W
  own : OwnC W w.heap.size v X k
theorem CSt.below {w wr : World} {v : Value} {X : List Co} {k : Nat} {e : Ev} {W W' : World} (h : CSt w wr v X k e W) (hb : Below W.heap.size W W') : CSt w wr v X k e W' := ⟨h.eb.below hb, h.own.below hb⟩
theorem CSt.drew {w wr : World} {v : Value} {X : List Co} {k : Nat} {e : Ev} {W : World} (h : CSt w wr v X k e W) : CSt w wr v X k e W.drew := h.below (Below.refl _ _).drew
theorem OwnC.cs {W : World} {base k : Nat} {v : Value} {X : List Co} (h : OwnC W base v X k) (hg : ∀ x ∈ X, Gc x.c) : ∃ A c, v = .slice A X.length c ∧ X.length ≤ c ∧ c ≤ maxLen ∧ CsAt W A X := by
  obtain ⟨A, c, e, h1, h2, h3, _⟩ := h.row.slice
  exact ⟨A, c, e, h1, h2, h3, hg⟩
theorem own_at {W : World} {base k : Nat} {v : Value} {X : List Co} (h : OwnC W base v X k) (hp : 0 < X.length) : ∃ g c, v = .slice (some ⟨g, 0, none⟩) X.length c ∧ X.length ≤ c ∧ c ≤ maxLen ∧ Rn.At encC W (some ⟨g, 0, none⟩) X := by
  obtain ⟨A, c, e, h1, h2, h3, _⟩ := h.row.slice
  rcases h.row.2 with ⟨e2, h0⟩ | ⟨g, cap, cur, e2, _⟩
  · omega
  · rw [e] at e2
    obtain ⟨rfl, _, rfl⟩ := Value.slice.inj e2
    exact ⟨g, c, e, h1, h2, h3⟩
theorem wrap_nat {j : Nat} (h : j < 4096) : IntKind.i64.wrap ((j : Nat) : Int) = (j : Nat) := by
  rw [IntKind.wrap_i64]; omega
theorem cs_set {X : List Co} {j : Nat} {y : Co} {c : Cr} : cs (X.set j ⟨y.rb, y.wb, c⟩) = (cs X).set j c := by unfold cs; rw [List.map_set]
theorem run_take {L : List Ev} {k : Nat} {l : List Cr} {e : Ev} (h : run 0 [] (L.take k) = some l) (he : L[k]? = some e) : run 0 [] (L.take (k + 1)) = if fits l e then some (step l k e) else none := by
  obtain ⟨hl, rfl⟩ := List.getElem?_eq_some_iff.1 he
  rw [List.take_succ_eq_append_getElem hl, run_snoc h, List.length_take, Nat.min_eq_left (by omega), Nat.zero_add]
theorem crs_stop {L : List Ev} {k : Nat} {l : List Cr} {e : Ev} (h : run 0 [] (L.take k) = some l) (he : L[k]? = some e) (hf : fits l e = false) : crs L = none := by
  unfold crs
  split
  · rfl
  · have := run_take h he
    rw [if_neg (by rw [hf]; decide)] at this
    have e2 : L = L.take (k + 1) ++ L.drop (k + 1) := (List.take_append_drop _ _).symm
    rw [e2, run_append, this]; rfl
set_option maxRecDepth 100000 in
set_option maxHeartbeats 4000000 in
theorem courses_any (A : Option Addr) (c : Nat) (L : List Ev) (w : World) (h : Rn.At encE w A L) (hok : ∀ e ∈ L, e.ok) (hl : L.length ≤ 2000) :
    Calls Try.prog 27 #[.slice A L.length c] w (CrsPost L w) := by
  have H := Lib.hid h
  have HOK := Lib.hid hok
  have HL := Lib.hid hl
  have hN : (L.length : Int) ≤ 2000 := by omega
  clear h hok
  unfold CrsPost
  generalize hcr : (crs L).isSome = b
  have HCR := Lib.hid hcr
  clear hcr
  go_enter Try.func27, Try.ntmps27
  go_wp2
  go_loopw [4, 12] (CrRel L w) (fun _ i _ => L.length - (intOf i).toNat)
  case atStart => exact ⟨0, [], Nat.zero_le _, rfl, OwnC.nil _ _ _, rfl, Below.refl _ _⟩
  case round =>
    obtain ⟨k, X, hk, rfl, ho, hrun, hb⟩ := hrel
    have HO := Lib.hid ho
    have HB := Lib.hid hb
    have HR := Lib.hid hrun
    have hok := run_ok hrun (by rw [List.length_take]; omega)
    rw [List.length_take, Nat.min_eq_left hk] at hok
    have HGA := Lib.hid (show ∀ x ∈ X, Okc k x.c from fun x hx => hok.1 _ (List.mem_map_of_mem hx))
    have HXL := Lib.hid (show X.length ≤ 32 from by have := hok.2; rwa [cs_len] at this)
    clear ho hb hrun hok
    by_cases hlt : k < L.length
    · have HKL := Lib.hid (show k < L.length ∧ L.length ≤ 2000 from ⟨hlt, hl⟩)
      have he : L[k]? = some L[k] := List.getElem?_eq_getElem hlt
      generalize hE : L[k] = e at he
      obtain ⟨ad, rfl, c0, c1, c2, c3, c4⟩ := atE (H.out.below HB.out (Nat.le_refl _)) he
      have HE := Lib.hid he
      have HEK := Lib.hid (HOK.out e (List.mem_of_getElem? he))
      clear hE he
      obtain ⟨A', cp, rfl, hn1, hn2, hA⟩ := HO.out.cs (fun x hx => (HGA.out x hx).gc (by omega))
      have HA := Lib.hid hA
      have HEB := Lib.hid (EB.new wr e)
      have hlt' : (k : Int) < (L.length : Int) := by omega
      have hXN : (X.length : Int) ≤ 32 := by have := HXL.out; omega
      clear hA
      cases hf : fits (cs X) e with
      | false =>
        have HF := Lib.hid hf
        clear hf
        have hcn := crs_stop HR.out HE.out HF.out
        obtain rfl : b = false := by rw [← HCR.out, hcn]; rfl
        have HCL := Lib.hid (show cs [] = crL L from by unfold crL; rw [hcn]; rfl)
        clear hcn
        unfold evA at HEB
        go_wp2_with fail
        refine (fits_val A' cp X e _ (HA.out.below HEB.out.bel) (by have := HXL.out; omega) HF.out).mono ?_
        rintro r w1 ⟨rfl, hb⟩
        have HB1 := Lib.hid ((HB.out.trans (HEB.out.bel.mono HB.out.size)).trans (hb.mono (HB.out.trans (HEB.out.bel.mono HB.out.size)).size))
        clear hb c0 c1 c2 c3 c4
        go_wp2
        go_ret2
        exact ⟨_, _, rfl, OwnC.nil _ _ _, HCL.out, HB1.out⟩
      | true =>
        have HF := Lib.hid hf
        clear hf
        have HRT := Lib.hid (show run 0 [] (L.take (k + 1)) = some (step (cs X) k e) from by rw [run_take HR.out HE.out, if_pos HF.out])
        by_cases h0 : e.kd = 0
        · have h0' := Lib.hid h0
          have HRN := Lib.hid (show run 0 [] (L.take (k + 1)) = some (cs X ++ [begun k]) from by rw [HRT.out, step_begin k h0])
          obtain ⟨kd, id, x, vk, vn⟩ := e
          dsimp only at h0 c0 c1 c2 c3 c4
          subst h0
          unfold evA at HEB
          go_wp2_with fail
          refine (fits_val A' cp X ⟨0, id, x, vk, vn⟩ _ (HA.out.below HEB.out.bel) (by have := HXL.out; omega) HF.out).mono ?_
          rintro r w1 ⟨rfl, hb⟩
          have HC := Lib.hid (show CSt w wr (.slice A' X.length cp) X k ⟨0, id, x, vk, vn⟩ w1 from ⟨HEB.out.below hb, (HO.out.below HEB.out.bel).below hb⟩)
          clear hb c0 c1 c2 c3 c4
          have d0 := HC.out.eb.c0
          dsimp only at d0
          go_wp2_with fail
          refine (begun_any k (by have := HKL.out; omega) _).mono ?_
          rintro r w2 ⟨y, rfl, hy, m1, m2, hy1, hy2, hb2⟩
          have HC2 := Lib.hid (HC.out.below hb2)
          have HY := Lib.hid hy
          have HM1 := Lib.hid m1
          have HM2 := Lib.hid m2
          have HLW := Lib.hid (show ∀ z ∈ X, z.rb < y.rb ∧ z.wb < y.rb from fun z hz => by
            obtain ⟨⟨s1, n1⟩, s2, n2⟩ := HC.out.own.mp z hz
            have := n1.lt; have := n2.lt
            omega)
          have HGE := Lib.hid (show w.heap.size ≤ y.rb ∧ y.rb < y.wb from ⟨by have := HB.out.size; have := HC.out.eb.bel.size; omega, hy2⟩)
          have HS2 := Lib.hid (show w.heap.size ≤ w2.heap.size from by have := HB.out.size; have := HC2.out.eb.bel.size; omega)
          have HAN := Lib.hid (Rn.At.new (E := encC) w2 y (coA y) rfl 71 rfl)
          clear hb2 d0 hy m1 m2 hy1 hy2
          unfold coA at HAN
          unfold coA
          go_wp2_with (at_builtin; refine Rp.append_rowG encC vtC rfl _ _ rfl rfl ((HC2.out.own.below (Rn.below_new _ _)).row) _ _ [y] rfl rfl HAN.out ?c1 ?c2 ?c3 ?_)
          case c1 => simp
          case c2 => have := HXL.out; simp; omega
          case c3 => have := HS2.out; simp; omega
          intro v' w3 ho3 hg3 hl3
          have HB3 := Lib.hid (show Below w.heap.size w w3 from ((HB.out.trans (HC2.out.eb.bel.mono HB.out.size)).trans ((Rn.below_new w2 _).mono HS2.out)).trans (Rp.grown_below (HC2.out.own.below (Rn.below_new _ _)).row hg3 (by have := HS2.out; simp; omega)))
          have HO3 := Lib.hid ((((HC2.out.own.below (Rn.below_new w2 _)).snoc ⟨0, by rw [HY.out]; exact (HM1.out.alloc _).mono (Nat.zero_le _)⟩ ⟨0, by rw [HY.out]; exact (HM2.out.alloc _).mono (Nat.zero_le _)⟩ HGE.out.1 HGE.out.2 HLW.out ho3 hg3)).mono (Nat.le_succ k))
          have HCS := Lib.hid (show cs X ++ [begun k] = cs (X ++ [y]) from by unfold cs; rw [List.map_append, ← HY.out]; rfl)
          clear ho3 hg3 hl3
          go_wp2
          go_round
          case rel => exact ⟨k + 1, _, by have := HKL.out; omega, by go_num, HO3.out, by rw [← HCS.out]; exact HRN.out, HB3.out⟩
          case measure => simp [intOf]; omega
        · obtain ⟨j, cj, hj, hcj, hov⟩ := fits_at h0 HF.out
          have hjl : j < X.length := by have := (List.getElem?_eq_some_iff.1 hcj).1; rwa [cs_len] at this
          have hy : X[j]? = some X[j] := List.getElem?_eq_getElem hjl
          generalize hYY : X[j] = y at hy
          obtain rfl : y.c = cj := Option.some.inj ((cs_at hy).symm.trans hcj)
          have HY := Lib.hid hy
          have HGB := Lib.hid (show y.c.b ≤ k from by have := (HGA.out y (List.mem_of_getElem? hy)).b; omega)
          have HGY := Lib.hid (show Gc y.c from (HGA.out y (List.mem_of_getElem? hy)).gc (by omega))
          have HKD := Lib.hid (show e.kd = 1 ∨ e.kd = 2 ∨ e.kd = 3 ∨ e.kd = 4 from by rcases fits_kd HF.out with h | h | h | h | h <;> omega)
          have HRN := Lib.hid (show run 0 [] (L.take (k + 1)) = some (cs (X.set j ⟨y.rb, y.wb, note y.c k e⟩)) from by rw [HRT.out, step_note k h0 hj hcj, cs_set])
          obtain ⟨g, cp', ev, _, _, _⟩ := own_at HO.out (by omega)
          obtain ⟨rfl, _, rfl⟩ := Value.slice.inj ev
          obtain ⟨kd, id, x, vk, vn⟩ := e
          dsimp only at h0 hj c0 c1 c2 c3 c4 HKD
          subst hj
          have HWJ := Lib.hid (show IntKind.i64.wrap ((j : Nat) : Int) = (j : Nat) from wrap_nat (by omega))
          have HJ := Lib.hid (show j < X.length ∧ (X.length : Int) ≤ 32 from ⟨hjl, hXN⟩)
          clear hcj hov hYY hy ev
          unfold evA at HEB
          go_wp2_with fail
          refine (fits_val _ cp X ⟨kd, (j : Int) + 1, x, vk, vn⟩ _ (HA.out.below HEB.out.bel) (by have := HXL.out; omega) HF.out).mono ?_
          rintro r w1 ⟨rfl, hb⟩
          have HC := Lib.hid (show CSt w wr (.slice (some ⟨g, 0, none⟩) X.length cp) X k ⟨kd, (j : Int) + 1, x, vk, vn⟩ w1 from ⟨HEB.out.below hb, (HO.out.below HEB.out.bel).below hb⟩)
          clear hb c0 c1 c2 c3 c4
          have d0 := HC.out.eb.c0
          dsimp only at d0
          go_wp2
          refine wp_region_noPanic ?_
          refine region_z 8 (fun W => CSt w wr (.slice (some ⟨g, 0, none⟩) X.length cp) X k ⟨kd, (j : Int) + 1, x, vk, vn⟩ W) 7 1000 rfl (by kernel_rfl) (by exact HC.out.drew) (fun hHeld => ?_)
          refine take_d [4, 7] 0 29 (.slice (some ⟨g, 0, none⟩) X.length cp) rfl rfl (by kernel_rfl) (by kernel_rfl) (by kernel_rfl) (by kernel_rfl) (fun _ _ _ h => h) (Or.inl ⟨by rfl, by intro W hW; clear hW; go_simp⟩) hHeld ?_
          simp only [put_laws]
          refine take_d [2, 3, 4, 7] 1 30 (.pointer (some ⟨wr.heap.size, 1, none⟩)) rfl rfl (by kernel_rfl) (by kernel_rfl) (by kernel_rfl) (by kernel_rfl) (fun _ _ _ h => h) (Or.inl ⟨by rfl, by intro W hW; clear hW; go_simp⟩) hHeld ?_
          simp only [put_laws]
          refine take_d [3, 4, 7] 2 31 (.int .i64 ((j : Int) + 1)) rfl rfl (by kernel_rfl) (by kernel_rfl) (by kernel_rfl) (by kernel_rfl) (fun _ _ _ h => h) (Or.inl ⟨by rfl, by intro W hW; have c := hW.eb.c1; clear hW; go_simp⟩) hHeld ?_
          simp only [put_laws]
          refine take_d [4, 7] 3 32 (.int .i64 (j : Nat)) rfl rfl (by kernel_rfl) (by kernel_rfl) (by kernel_rfl) (by kernel_rfl) (fun _ _ _ h => h) (Or.inl ⟨by rfl, by intro W hW; have hj := HJ.out; have hwj := HWJ.out; clear hW; go_simp⟩) hHeld ?_
          simp only [put_laws]
          refine take_d [7] 4 33 (.pointer (some ⟨g, j * 4, none⟩)) rfl rfl (by kernel_rfl) (by kernel_rfl) (by kernel_rfl) (by kernel_rfl) (fun _ _ _ h => h) (Or.inl ⟨by rfl, by intro W hW; have hj := HJ.out; clear hW; go_simp⟩) hHeld ?_
          simp only [put_laws]
          refine take_d [7] 5 34 (.int .i64 (k : Nat)) rfl rfl (by kernel_rfl) (by kernel_rfl) (by kernel_rfl) (by kernel_rfl) (fun _ _ _ h => h) (Or.inl ⟨by rfl, by intro W hW; clear hW; go_simp⟩) hHeld ?_
          simp only [put_laws]
          refine take_d [7] 6 35 (.agg (#[.int .i64 kd, .int .i64 ((j : Int) + 1), .int .i64 x, .int .i64 vk, .int .i64 vn])) rfl rfl (by kernel_rfl) (by kernel_rfl) (by kernel_rfl) (by kernel_rfl) (fun _ _ _ h => h) (Or.inl ⟨by rfl, by intro W hW; have c0 := hW.eb.c0; have c1 := hW.eb.c1; have c2 := hW.eb.c2; have c3 := hW.eb.c3; have c4 := hW.eb.c4; clear hW; go_simp⟩) hHeld ?_
          simp only [put_laws]
          refine anyZ_ready (rs := [7]) (by kernel_rfl) (by simp) ?_
          refine AllZ.last rfl rfl (fun K hK => ?_)
          go_simp
          refine (note_all (e := ⟨kd, (j : Int) + 1, x, vk, vn⟩) hHeld.own HY.out HEK.out (by have := HKL.out; omega) (by have := HKL.out; omega) (HGB.out) HGY.out HKD.out).mono ?_
          rintro r w2 ⟨rfl, ho2, hb2⟩
          try go_simp
          have HO2 := Lib.hid ho2
          have HB2 := Lib.hid ((HB.out.trans (hHeld.eb.bel.mono HB.out.size)).trans hb2)
          refine hK.out _ _ ?_
          clear hK K hHeld ho2 hb2
          refine anyZ_done (by kernel_rfl) ?_ _
          refine NoPanic.normal ?_
          go_wp2
          go_roundw
          case rel => exact ⟨k + 1, _, by have := HKL.out; omega, by go_num, HO2.out, HRN.out, HB2.out⟩
          case measure => simp [intOf]; omega
    · have hlt' : ¬ (k : Int) < (L.length : Int) := by omega
      have hcn : crs L = some (cs X) := by
        rw [crs_run hl]
        have := HR.out
        rwa [List.take_of_length_le (by omega)] at this
      obtain rfl : b = true := by rw [← HCR.out, hcn]; rfl
      have HCL := Lib.hid (show cs X = crL L from by unfold crL; rw [hcn]; rfl)
      clear hcn
      go_wp2
      go_ret2
      exact ⟨_, rfl, _, HO.out.mono (by omega), HCL.out, HB.out⟩
end Go.Proofs.Ytaonepbongbhoaa.Hi
namespace Go.Proofs.Ytaonepbongbhoaa.Hi
open Go.RowKit
open Tx (i64p right)
open Az
/-- the row of courses, to be read. -/
structure RdC (W : World) (A : Option Addr) (X : List Co) : Prop where
  row : Rn.At encC W A X
  gc : ∀ x ∈ X, Gc x.c
  mp : ∀ x ∈ X, (∃ sz, NM W x.rb 2000 sz x.c.rd) ∧ ∃ sz, NM W x.wb 2000 sz x.c.wr
theorem RdC.below {W W' : World} {A : Option Addr} {X : List Co} (h : RdC W A X) (hb : Below W.heap.size W W') : RdC W' A X :=
  ⟨h.row.below hb (Nat.le_refl _), h.gc, fun x hx => by
    obtain ⟨⟨s1, h1⟩, s2, h2⟩ := h.mp x hx
    exact ⟨⟨s1, h1.below hb⟩, s2, h2.below hb⟩⟩
theorem RdC.cs {W : World} {A : Option Addr} {X : List Co} (h : RdC W A X) : CsAt W A X := ⟨h.row, h.gc⟩
def CrsS (L : List Ev) (w : World) (r : Ending) (w' : World) : Prop := ∃ A c X, r = .returned (.tuple #[.slice A X.length c, .bool (crs L).isSome]) ∧ X.length ≤ 32 ∧ X.length ≤ c ∧ c ≤ maxLen ∧ RdC w' A X ∧ cs X = crL L ∧ Below w.heap.size w w'
theorem crL_ok {L : List Ev} (hl : L.length ≤ 2000) : (∀ c ∈ crL L, Okc 2000 c) ∧ (crL L).length ≤ 32 := by
  unfold crL
  cases h : crs L with
  | none => exact ⟨by simp, by simp⟩
  | some l =>
    have := run_ok (crs_some h).2 hl
    exact ⟨fun c hc => (this.1 c hc).mono hl, this.2⟩
theorem courses_s (A : Option Addr) (c : Nat) (L : List Ev) (w : World) (h : Rn.At encE w A L) (hok : ∀ e ∈ L, e.ok) (hl : L.length ≤ 2000) : Calls Try.prog 27 #[.slice A L.length c] w (CrsS L w) := by
  refine (courses_any A c L w h hok hl).mono ?_
  rintro r w' ⟨v, X, rfl, ho, hX, hb⟩
  have hk := crL_ok hl
  rw [← hX] at hk
  have hg : ∀ x ∈ X, Gc x.c := fun x hx => (hk.1 _ (List.mem_map_of_mem hx)).gc (Nat.le_refl _)
  obtain ⟨B, d, rfl, h1, h2, h3⟩ := ho.cs hg
  exact ⟨B, d, X, rfl, by rw [← cs_len]; exact hk.2, h1, h2, ⟨h3.row, hg, ho.mp⟩, hX, hb⟩
set_option maxHeartbeats 1000000 in
theorem right_any (A : Option Addr) (c : Nat) (L : List Ev) (w : World) (h : Rn.At encE w A L) (hok : ∀ e ∈ L, e.ok) (hl : L.length ≤ 2000) :
    Calls Try.prog 23 #[.slice A L.length c] w fun r w' => r = .returned (.bool (crs L).isSome) ∧ Below w.heap.size w w' := by
  have H := Lib.hid (courses_s A c L w h hok hl)
  clear h hok
  go_enter Try.func23, Try.ntmps23
  go_wp2_with fail
  refine H.out.mono ?_
  rintro r w1 ⟨B, d, X, rfl, _, _, _, _, _, hb⟩
  have HB := Lib.hid hb
  clear hb
  go_wp2
  go_ret
  exact ⟨rfl, HB.out⟩
section
variable {α : Type} {E : Rn.Enc α}
/-- the first k are as they are to be, the rest as they were made. -/
def fill (f : Nat → α) (z : α) (n k : Nat) : List α := (List.range n).map fun i => if i < k then f i else z
theorem fill_len (f : Nat → α) (z : α) (n k : Nat) : (fill f z n k).length = n := by simp [fill]
theorem fill_zero (f : Nat → α) (z : α) (n : Nat) : fill f z n 0 = List.replicate n z := by
  apply List.ext_getElem
  · simp [fill]
  · intro i h1 h2; simp [fill]
theorem fill_at (f : Nat → α) (z : α) {n k : Nat} (h : k < n) : (fill f z n k)[k]? = some z := by simp [fill, h]
theorem fill_set (f : Nat → α) (z : α) (n k : Nat) : (fill f z n k).set k (f k) = fill f z n (k + 1) := by
  apply List.ext_getElem
  · simp [fill]
  · intro i h1 h2
    simp only [fill, List.getElem_set, List.getElem_map, List.getElem_range]
    by_cases e : k = i
    · subst e; simp
    · have : (i < k + 1) ↔ (i < k) := by omega
      simp [e, this]
theorem fill_all (f : Nat → α) (z : α) (n : Nat) : fill f z n n = (List.range n).map f := by
  apply List.ext_getElem
  · simp [fill]
  · intro i h1 h2
    have : i < n := by simpa [fill] using h1
    simp [fill, this]
theorem made_flat {z : Array Value} {x : α} (hz : z.toList = E.cells x) (n : Nat) : (madeCells z (n * E.n)).toList = Rn.flat E (List.replicate n x) := by
  have hs : z.size = E.n := by rw [← Array.length_toList, hz, E.len]
  apply List.ext_getElem?
  intro i
  by_cases h : i < n * E.n
  · have hp := E.pos
    have hd : i / E.n < n := Nat.div_lt_of_lt_mul (by rw [Nat.mul_comm]; exact h)
    have hm : i % E.n < E.n := Nat.mod_lt _ hp
    have e : i / E.n * E.n + i % E.n = i := by rw [Nat.mul_comm]; exact Nat.div_add_mod i E.n
    have h1 := Rn.flat_at (E := E) (L := List.replicate n x) (j := i / E.n) (v := x) (by simp [hd]) (i % E.n) hm
    rw [e] at h1
    rw [h1, Array.getElem?_toList, Array.getElem?_eq_getElem (by rw [size_madeCells]; exact h), ← hz, Array.getElem?_toList, Array.getElem?_eq_getElem (by rw [hs]; exact hm)]
    simp [madeCells, hs, hm]
  · rw [List.getElem?_eq_none (by simp [size_madeCells]; omega), List.getElem?_eq_none (by rw [Rn.flat_len]; simp; omega)]
theorem wpList_make (E : Rn.Enc α) {w : World} {ops : Array Oper} {rest : List Oper} {o : Oper} {a : Act} {Q : Exit → Act → World → Prop} (hg : o.guard = none) (l c : Operand) (t : TypeId) (hop : o.op = Op.makeSlice t l c)
    (e : TypeId) (i : TypeInfo) (z : Value) (x : α) (h1 : Try.prog.underlying t = some (.slice e)) (h2 : Try.prog.info? e = some i) (h3 : i.zero = some z) (h4 : i.size = E.n) (hz : z.cells.toList = E.cells x) (hby : i.bytes ≤ 64)
    (n : Nat) (hn : n ≤ 100000) (hl : a.eval l = .int .i64 n) (hc : a.eval c = .int .i64 n)
    (hK : ∀ w', Rn.Own E w' w.heap.size e (.slice (some ⟨w.heap.size, 0, none⟩) n n) (List.replicate n x) → Below w.heap.size w w' → w.heap.size < w'.heap.size → wpList Try.prog ops Q rest (a.put o.dst (.slice (some ⟨w.heap.size, 0, none⟩) n n)) w') :
    wpList Try.prog ops Q (o :: rest) a w := by
  refine wpList_make_full w hg l c t hop w.heap.size e i z E.n h1 h2 h3 h4 .i64 .i64 n n n hl hc rfl rfl (by have := Nat.mul_le_mul hby hn; omega) (by unfold maxLen; omega) (Nat.le_refl _) ?_
  intro w' ho hg
  rw [made_flat hz] at ho
  have ho' : Rn.Own E w' w.heap.size e (.slice (some ⟨w.heap.size, 0, none⟩) n n) (List.replicate n x) := by
    unfold Rn.Own; rw [List.length_replicate]; exact ho
  exact hK w' ho' ((Below.refl _ _).grown hg (Nat.le_refl _) (fun k hk => by cases hk)) (Rn.Own.lt ho').2
end
abbrev encI : Rn.Enc Int where
  n := 1
  pos := by decide
  cells x := [.int .i64 x]
  len _ := rfl
  one v u hu := by simp at hu; subst hu; rfl
abbrev encZ : Rn.Enc (Nat × Nat) where
  n := 1
  pos := by decide
  cells p := [.complex .f64 p.1 p.2]
  len _ := rfl
  one v u hu := by simp at hu; subst hu; rfl
theorem int_info : (Try.prog.info? 3).map (fun i => (i.zero, i.size, i.bytes)) = some (some (.int .i64 0), 1, 8) := by kernel_rfl
theorem cpx_info : (Try.prog.info? 68).map (fun i => (i.zero, i.size, i.bytes)) = some (some (.complex .f64 0 0), 1, 16) := by kernel_rfl
def idsL (n : Nat) : List Int := (List.range n).map fun i => ((i : Nat) : Int) + 1
def RowS {α : Type} (E : Rn.Enc α) (l : List α) (w : World) (r : Ending) (w' : World) : Prop := ∃ B d, r = .returned (.slice B l.length d) ∧ l.length ≤ d ∧ d ≤ maxLen ∧ Rn.At E w' B l ∧ Below w.heap.size w w'
def IdRel (w : World) (g n : Nat) (base : Nat) (i : Value) (wr : World) : Prop := ∃ k : Nat, k ≤ n ∧ i = .int .i64 k ∧ Rn.Own encI wr base 3 (.slice (some ⟨g, 0, none⟩) n n) (fill (fun i => ((i : Nat) : Int) + 1) 0 n k) ∧ Below w.heap.size w wr
set_option maxRecDepth 100000 in
set_option maxHeartbeats 1000000 in
theorem ids_any (A : Option Addr) (c : Nat) (L : List Ev) (w : World) (h : Rn.At encE w A L) (hok : ∀ e ∈ L, e.ok) (hl : L.length ≤ 2000) :
    Calls Try.prog 17 #[.slice A L.length c] w (RowS encI (idsL (crL L).length) w) := by
  have H := Lib.hid (courses_s A c L w h hok hl)
  obtain ⟨i0, hi, hz0, hz1, hz2⟩ := info_parts int_info
  clear h hok
  go_enter Try.func17, Try.ntmps17
  go_wp2_with fail
  refine H.out.mono ?_
  rintro r w1 ⟨B, d, X, rfl, hX, h1, h2, hr, he, hb⟩
  have HB := Lib.hid hb
  have HE := Lib.hid (show X.length = (crL L).length from by rw [← he, cs_len])
  have HX := Lib.hid hX
  have hXN : (X.length : Int) ≤ 32 := by omega
  clear hb he hr hX
  go_wp2_with (refine wpList_make encI rfl (.tmp 13) (.tmp 13) 26 rfl 3 i0 _ 0 Try.underlying26 hi hz0 hz1 rfl (by rw [hz2]; decide) X.length (by have := HX.out; omega) rfl rfl ?_)
  intro w2 ho hb2 hs2
  have HO := Lib.hid ho
  have HB2 := Lib.hid (show Below w.heap.size w w2 from HB.out.trans (hb2.mono HB.out.size))
  have HG := Lib.hid HB.out.size
  clear ho hb2 hs2
  generalize w1.heap.size = g at *
  go_wp2
  go_loopw [17] (IdRel w g X.length g) (fun i _ => X.length - (intOf i).toNat)
  case atStart => exact ⟨0, Nat.zero_le _, rfl, by rw [fill_zero]; exact HO.out, HB2.out⟩
  case round =>
    obtain ⟨k, hk, rfl, ho, hb⟩ := hrel
    have HO := Lib.hid ho
    have HB := Lib.hid hb
    clear ho hb
    by_cases hlt : k < X.length
    · have hlt' : (k : Int) < (X.length : Int) := by omega
      have cc := HO.out.get (fill_at _ _ hlt) 0 (by decide)
      have ff := HO.out.free (k * 1 + 0)
      simp only [Nat.mul_one, Nat.add_zero, List.getElem?_cons_zero] at cc ff
      have HP := Lib.hid (HO.out.put (fill_at _ _ hlt) 0 (by decide) (.int .i64 ((k : Int) + 1)) (v' := (k : Int) + 1) rfl)
      have HS := Lib.hid (fill_set (fun i => ((i : Nat) : Int) + 1) (0 : Int) X.length k)
      go_wp2
      go_roundw
      case rel => exact ⟨k + 1, by omega, by go_num, by have := HP.out; simp only [Nat.mul_one, Nat.add_zero] at this; rw [HS.out] at this; exact this, HB.out.setCell HG.out _⟩
      case measure => simp [intOf]; omega
    · have hlt' : ¬ (k : Int) < (X.length : Int) := by omega
      obtain rfl : k = X.length := by omega
      have HF := Lib.hid (show Rn.Own encI wr g 3 (.slice (some ⟨g, 0, none⟩) X.length X.length) (idsL (crL L).length) from by
        have := HO.out
        rw [fill_all] at this
        rw [← HE.out]; exact this)
      go_wp2
      go_ret
      obtain ⟨B', d', e1, e2, e3, e4, _⟩ := HF.out.slice
      exact ⟨B', d', congrArg Ending.returned e1, e2, e3, e4, HB.out⟩
/-- the spans' parts as they lie. -/
def spanL (l : List Cr) : List (Nat × Nat) := l.map fun c => (cr c, ci c)
def spanF (l : List Cr) (i : Nat) : Nat × Nat := ((l[i]?).map fun c => (cr c, ci c)).getD (0, 0)
theorem spanF_all (l : List Cr) : (List.range l.length).map (spanF l) = spanL l := by
  apply List.ext_getElem
  · simp [spanL]
  · intro i h1 h2
    have : i < l.length := by simpa using h1
    simp [spanF, spanL, this]
def SpRel (w : World) (X : List Co) (B : Option Addr) (g : Nat) (i : Value) (wr : World) : Prop := ∃ k : Nat, k ≤ X.length ∧ i = .int .i64 k ∧ Rn.Own encZ wr g 68 (.slice (some ⟨g, 0, none⟩) X.length X.length) (fill (spanF (cs X)) (0, 0) X.length k) ∧ Rn.At encC wr B X ∧ Below w.heap.size w wr
theorem at_cell {α : Type} {E : Rn.Enc α} {W : World} {B : Option Addr} {X : List α} {g i : Nat} {v : Value} {base : Nat} (h : Rn.At E W B X) (hb : Below base W (W.setCell ⟨g, i, none⟩ v)) (hlt : ∀ ad, B = some ad → ad.block < base) : Rn.At E (W.setCell ⟨g, i, none⟩ v) B X :=
  ⟨fun hl => by
    obtain ⟨ad, e, hc⟩ := h.cell hl
    exact ⟨ad, e, fun j u hu => (hb.cell (by rw [Rn.add_block]; exact hlt ad e)).trans (hc j u hu)⟩⟩
theorem at_lt {α : Type} {E : Rn.Enc α} {W : World} {B : Option Addr} {X : List α} (h : Rn.At E W B X) (hl : 0 < X.length) : ∃ ad, B = some ad ∧ ad.block < W.heap.size := by
  obtain ⟨ad, e, hc⟩ := h.cell hl
  refine ⟨ad, e, ?_⟩
  have hf : 0 < (Rn.flat E X).length := by rw [Rn.flat_len]; exact Nat.mul_pos hl E.pos
  have := Rn.cell_lt (hc 0 _ (List.getElem?_eq_getElem hf))
  rwa [Rn.add_block] at this
set_option maxRecDepth 100000 in
set_option maxHeartbeats 2000000 in
theorem spans_any (A : Option Addr) (c : Nat) (L : List Ev) (w : World) (h : Rn.At encE w A L) (hok : ∀ e ∈ L, e.ok) (hl : L.length ≤ 2000) :
    Calls Try.prog 40 #[.slice A L.length c] w (RowS encZ (spanL (crL L)) w) := by
  have H := Lib.hid (courses_s A c L w h hok hl)
  obtain ⟨i0, hi, hz0, hz1, hz2⟩ := info_parts cpx_info
  have hstc : ∀ (W : World) (ad : Addr) (p q : Nat) (m : Mode), (store ad (.complex .f64 p q) m).run Try.prog W = stored Try.prog W ad (.complex .f64 p q) m := fun W ad p q m => run_store Try.prog W ad _ m rfl
  clear h hok
  go_enter Try.func40, Try.ntmps40
  go_wp2_with fail
  refine H.out.mono ?_
  rintro r w1 ⟨B, d, X, rfl, hX, h1, h2, hr, he, hb⟩
  have HB := Lib.hid hb
  have HR := Lib.hid hr.row
  have HE := Lib.hid he
  have HX := Lib.hid hX
  have hXN : (X.length : Int) ≤ 32 := by omega
  clear hb he hr hX
  go_wp2_with (refine wpList_make encZ rfl (.tmp 14) (.tmp 14) 79 rfl 68 i0 _ (0, 0) Try.underlying79 hi hz0 hz1 rfl (by rw [hz2]; decide) X.length (by have := HX.out; omega) rfl rfl ?_)
  intro w2 ho hb2 hs2
  have HO := Lib.hid ho
  have HB2 := Lib.hid (show Below w.heap.size w w2 from HB.out.trans (hb2.mono HB.out.size))
  have HG := Lib.hid HB.out.size
  have HR2 := Lib.hid (HR.out.below hb2 (Nat.le_refl _))
  have HLT := Lib.hid (show 0 < X.length → ∀ ad, B = some ad → ad.block < w1.heap.size from fun hp ad e => by
    obtain ⟨ad', e', h'⟩ := at_lt HR.out hp
    rw [e] at e'; obtain rfl := Option.some.inj e'; exact h')
  clear ho hb2 hs2 HR
  generalize w1.heap.size = g at *
  go_wp2
  go_loopw [18] (SpRel w X B g) (fun i _ => X.length - (intOf i).toNat)
  case atStart => exact ⟨0, Nat.zero_le _, rfl, by rw [fill_zero]; exact HO.out, HR2.out, HB2.out⟩
  case round =>
    obtain ⟨k, hk, rfl, ho, hr, hb⟩ := hrel
    have HO := Lib.hid ho
    have HB := Lib.hid hb
    have HR := Lib.hid hr
    clear ho hb hr
    by_cases hlt : k < X.length
    · have hlt' : (k : Int) < (X.length : Int) := by omega
      have hx : X[k]? = some X[k] := List.getElem?_eq_getElem hlt
      generalize hXX : X[k] = x at hx
      have HXK := Lib.hid hx
      have HLT2 := Lib.hid (HLT.out (by omega))
      obtain ⟨ad, rfl, c0, c1, c2, c3⟩ := atC HR.out hx
      have HOa := Lib.hid (HO.out.alloc (.cells (coA x) 71))
      have HRa := Lib.hid (HR.out.alloc (.cells (coA x) 71))
      have HBa := Lib.hid (HB.out.alloc HB.out.size (.cells (coA x) 71))
      have cc := HOa.out.get (fill_at _ _ hlt) 0 (by decide)
      have ff := HOa.out.free (k * 1 + 0)
      simp only [Nat.mul_one, Nat.add_zero, List.getElem?_cons_zero] at cc ff
      have HV := Lib.hid (show spanF (cs X) k = (cr x.c, ci x.c) from by unfold spanF; rw [cs_at hx]; rfl)
      have HS := Lib.hid (fill_set (spanF (cs X)) ((0, 0) : Nat × Nat) X.length k)
      have HP := Lib.hid (HOa.out.put (fill_at _ _ hlt) 0 (by decide) (.complex .f64 (cr x.c) (ci x.c)) (v' := (cr x.c, ci x.c)) rfl)
      clear hx hXX
      unfold coA at HOa HRa HBa HP cc ff
      go_wp2
      go_roundw
      case rel =>
        have hbb := HBa.out.setCell (p := ⟨g, k, none⟩) HG.out (.complex .f64 (cr x.c) (ci x.c))
        refine ⟨k + 1, by omega, by go_num, ?_, ?_, hbb⟩
        · have := HP.out
          simp only [Nat.mul_one, Nat.add_zero] at this
          rw [← HV.out, HS.out] at this
          exact this
        · exact at_cell HRa.out ((Below.refl g _).setCell (Nat.le_refl _) _) HLT2.out
      case measure => simp [intOf]; omega
    · have hlt' : ¬ (k : Int) < (X.length : Int) := by omega
      obtain rfl : k = X.length := by omega
      have HF := Lib.hid (show Rn.Own encZ wr g 68 (.slice (some ⟨g, 0, none⟩) X.length X.length) (spanL (crL L)) from by
        have := HO.out
        rw [fill_all, ← cs_len X, spanF_all, HE.out] at this
        rw [← cs_len X, HE.out]
        first | exact this | (rw [HE.out] at this; exact this))
      go_wp2
      go_ret
      obtain ⟨B', d', e1, e2, e3, e4, _⟩ := HF.out.slice
      exact ⟨B', d', congrArg Ending.returned e1, e2, e3, e4, HB.out⟩
end Go.Proofs.Ytaonepbongbhoaa.Hi
