/-
  The contract of courses: how all transactions of a row of events went.
-/
import Derived.Test.YtcfdndppkpjleaaHOwn
import Derived.Test.YtcfdndppkpjleaaAnyD
namespace Go.Proofs.Ytcfdndppkpjleaa.Hi
open Go.RowKit
open Tx (i64p right)
open Az
def CrsPost (L : List Ev) (w : World) (r : Ending) (w' : World) : Prop := ∃ v X, r = .returned (.tuple #[v, .bool (crs L).isSome]) ∧ OwnC w' w.heap.size v X 2000 ∧ cs X = crL L ∧ Below w.heap.size w w'
def CrRel (L : List Ev) (w : World) (v i : Value) (wr : World) : Prop := ∃ (k : Nat) (X : List Co), k ≤ L.length ∧ i = .int .i64 k ∧ OwnC wr w.heap.size v X k ∧ run 0 [] (L.take k) = some (cs X) ∧ Below w.heap.size w wr
/-- the event's box and the row of courses. -/
structure CSt (w wr : World) (v : Value) (X : List Co) (k : Nat) (e : Ev) (W : World) : Prop where
  eb : EB wr e W
  own : OwnC W w.heap.size v X k
theorem CSt.below {w wr : World} {v : Value} {X : List Co} {k : Nat} {e : Ev} {W W' : World} (h : CSt w wr v X k e W) (hb : Below W.heap.size W W') : CSt w wr v X k e W' := ⟨h.eb.below hb, h.own.below hb⟩
theorem CSt.drew {w wr : World} {v : Value} {X : List Co} {k : Nat} {e : Ev} {W : World} (h : CSt w wr v X k e W) : CSt w wr v X k e W.drew := h.below (Below.refl _ _).drew
theorem OwnC.cs {W : World} {base k : Nat} {v : Value} {X : List Co} (h : OwnC W base v X k) (hg : ∀ x ∈ X, Gc x.c) : ∃ A c, v = .slice A X.length c ∧ X.length ≤ c ∧ c ≤ maxLen ∧ CsAt W A X := by
  obtain ⟨A, c, e, h1, h2, h3, _⟩ := h.row.slice
  exact ⟨A, c, e, h1, h2, h3, hg⟩
theorem own_at {W : World} {base k : Nat} {v : Value} {X : List Co} (h : OwnC W base v X k) (hp : 0 < X.length) : ∃ g c, v = .slice (some ⟨g, 0, none⟩) X.length c ∧ X.length ≤ c ∧ c ≤ maxLen ∧ Rn.At encC W (some ⟨g, 0, none⟩) X := by
  obtain ⟨A, c, e, h1, h2, h3, _⟩ := h.row.slice
  rcases h.row.2 with ⟨e2, h0⟩ | ⟨g, cap, cur, e2, _⟩
  · omega
  · rw [e] at e2
    obtain ⟨rfl, _, rfl⟩ := Value.slice.inj e2
    exact ⟨g, c, e, h1, h2, h3⟩
theorem wrap_nat {j : Nat} (h : j < 4096) : IntKind.i64.wrap ((j : Nat) : Int) = (j : Nat) := by
  rw [IntKind.wrap_i64]; omega
theorem cs_set {X : List Co} {j : Nat} {y : Co} {c : Cr} : cs (X.set j ⟨y.rb, y.wb, c⟩) = (cs X).set j c := by unfold cs; rw [List.map_set]
theorem run_take {L : List Ev} {k : Nat} {l : List Cr} {e : Ev} (h : run 0 [] (L.take k) = some l) (he : L[k]? = some e) : run 0 [] (L.take (k + 1)) = if fits l e then some (step l k e) else none := by
  obtain ⟨hl, rfl⟩ := List.getElem?_eq_some_iff.1 he
  rw [List.take_succ_eq_append_getElem hl, run_snoc h, List.length_take, Nat.min_eq_left (by omega), Nat.zero_add]
theorem crs_stop {L : List Ev} {k : Nat} {l : List Cr} {e : Ev} (h : run 0 [] (L.take k) = some l) (he : L[k]? = some e) (hf : fits l e = false) : crs L = none := by
  unfold crs
  split
  · rfl
  · have := run_take h he
    rw [if_neg (by rw [hf]; decide)] at this
    have e2 : L = L.take (k + 1) ++ L.drop (k + 1) := (List.take_append_drop _ _).symm
    rw [e2, run_append, this]; rfl
set_option maxRecDepth 100000 in
set_option maxHeartbeats 4000000 in
theorem courses_any (A : Option Addr) (c : Nat) (L : List Ev) (w : World) (h : Rn.At encE w A L) (hok : ∀ e ∈ L, e.ok) (hl : L.length ≤ 2000) :
    Calls Try.prog 30 #[.slice A L.length c] w (CrsPost L w) := by
  have H := Lib.hid h
  have HOK := Lib.hid hok
  have HL := Lib.hid hl
  have hN : (L.length : Int) ≤ 2000 := by omega
  clear h hok
  unfold CrsPost
  generalize hcr : (crs L).isSome = b
  have HCR := Lib.hid hcr
  clear hcr
  go_enter Try.func30, Try.ntmps30
  go_wp2
  go_loopw [4, 12] (CrRel L w) (fun _ i _ => L.length - (intOf i).toNat)
  case atStart => exact ⟨0, [], Nat.zero_le _, rfl, OwnC.nil _ _ _, rfl, Below.refl _ _⟩
  case round =>
    obtain ⟨k, X, hk, rfl, ho, hrun, hb⟩ := hrel
    have HO := Lib.hid ho
    have HB := Lib.hid hb
    have HR := Lib.hid hrun
    have hok := run_ok hrun (by rw [List.length_take]; omega)
    rw [List.length_take, Nat.min_eq_left hk] at hok
    have HGA := Lib.hid (show ∀ x ∈ X, Okc k x.c from fun x hx => hok.1 _ (List.mem_map_of_mem hx))
    have HXL := Lib.hid (show X.length ≤ 32 from by have := hok.2; rwa [cs_len] at this)
    clear ho hb hrun hok
    by_cases hlt : k < L.length
    · have HKL := Lib.hid (show k < L.length ∧ L.length ≤ 2000 from ⟨hlt, hl⟩)
      have he : L[k]? = some L[k] := List.getElem?_eq_getElem hlt
      generalize hE : L[k] = e at he
      obtain ⟨ad, rfl, c0, c1, c2, c3, c4⟩ := atE (H.out.below HB.out (Nat.le_refl _)) he
      have HE := Lib.hid he
      have HEK := Lib.hid (HOK.out e (List.mem_of_getElem? he))
      clear hE he
      obtain ⟨A', cp, rfl, hn1, hn2, hA⟩ := HO.out.cs (fun x hx => (HGA.out x hx).gc (by omega))
      have HA := Lib.hid hA
      have HEB := Lib.hid (EB.new wr e)
      have hlt' : (k : Int) < (L.length : Int) := by omega
      have hXN : (X.length : Int) ≤ 32 := by have := HXL.out; omega
      clear hA
      cases hf : fits (cs X) e with
      | false =>
        have HF := Lib.hid hf
        clear hf
        have hcn := crs_stop HR.out HE.out HF.out
        obtain rfl : b = false := by rw [← HCR.out, hcn]; rfl
        have HCL := Lib.hid (show cs [] = crL L from by unfold crL; rw [hcn]; rfl)
        clear hcn
        unfold evA at HEB
        go_wp2_with fail
        refine (fits_val A' cp X e _ (HA.out.below HEB.out.bel) (by have := HXL.out; omega) HF.out).mono ?_
        rintro r w1 ⟨rfl, hb⟩
        have HB1 := Lib.hid ((HB.out.trans (HEB.out.bel.mono HB.out.size)).trans (hb.mono (HB.out.trans (HEB.out.bel.mono HB.out.size)).size))
        clear hb c0 c1 c2 c3 c4
        go_wp2
        go_ret2
        exact ⟨_, _, rfl, OwnC.nil _ _ _, HCL.out, HB1.out⟩
      | true =>
        have HF := Lib.hid hf
        clear hf
        have HRT := Lib.hid (show run 0 [] (L.take (k + 1)) = some (step (cs X) k e) from by rw [run_take HR.out HE.out, if_pos HF.out])
        by_cases h0 : e.kd = 0
        · have h0' := Lib.hid h0
          have HRN := Lib.hid (show run 0 [] (L.take (k + 1)) = some (cs X ++ [begun k]) from by rw [HRT.out, step_begin k h0])
          obtain ⟨kd, id, x, vk, vn⟩ := e
          dsimp only at h0 c0 c1 c2 c3 c4
          subst h0
          unfold evA at HEB
          go_wp2_with fail
          refine (fits_val A' cp X ⟨0, id, x, vk, vn⟩ _ (HA.out.below HEB.out.bel) (by have := HXL.out; omega) HF.out).mono ?_
          rintro r w1 ⟨rfl, hb⟩
          have HC := Lib.hid (show CSt w wr (.slice A' X.length cp) X k ⟨0, id, x, vk, vn⟩ w1 from ⟨HEB.out.below hb, (HO.out.below HEB.out.bel).below hb⟩)
          clear hb c0 c1 c2 c3 c4
          have d0 := HC.out.eb.c0
          dsimp only at d0
          go_wp2_with fail
          refine (begun_any k (by have := HKL.out; omega) _).mono ?_
          rintro r w2 ⟨y, rfl, hy, m1, m2, hy1, hy2, hb2⟩
          have HC2 := Lib.hid (HC.out.below hb2)
          have HY := Lib.hid hy
          have HM1 := Lib.hid m1
          have HM2 := Lib.hid m2
          have HLW := Lib.hid (show ∀ z ∈ X, z.rb < y.rb ∧ z.wb < y.rb from fun z hz => by
            obtain ⟨⟨s1, n1⟩, s2, n2⟩ := HC.out.own.mp z hz
            have := n1.lt; have := n2.lt
            omega)
          have HGE := Lib.hid (show w.heap.size ≤ y.rb ∧ y.rb < y.wb from ⟨by have := HB.out.size; have := HC.out.eb.bel.size; omega, hy2⟩)
          have HS2 := Lib.hid (show w.heap.size ≤ w2.heap.size from by have := HB.out.size; have := HC2.out.eb.bel.size; omega)
          have HAN := Lib.hid (Rn.At.new (E := encC) w2 y (coA y) rfl 82 rfl)
          clear hb2 d0 hy m1 m2 hy1 hy2
          unfold coA at HAN
          unfold coA
          go_wp2_with (at_builtin; refine Rp.append_rowG encC vtC rfl _ _ rfl rfl ((HC2.out.own.below (Rn.below_new _ _)).row) _ _ [y] rfl rfl HAN.out ?c1 ?c2 ?c3 ?_)
          case c1 => simp
          case c2 => have := HXL.out; simp; omega
          case c3 => have := HS2.out; simp; omega
          intro v' w3 ho3 hg3 hl3
          have HB3 := Lib.hid (show Below w.heap.size w w3 from ((HB.out.trans (HC2.out.eb.bel.mono HB.out.size)).trans ((Rn.below_new w2 _).mono HS2.out)).trans (Rp.grown_below (HC2.out.own.below (Rn.below_new _ _)).row hg3 (by have := HS2.out; simp; omega)))
          have HO3 := Lib.hid ((((HC2.out.own.below (Rn.below_new w2 _)).snoc ⟨0, by rw [HY.out]; exact (HM1.out.alloc _).mono (Nat.zero_le _)⟩ ⟨0, by rw [HY.out]; exact (HM2.out.alloc _).mono (Nat.zero_le _)⟩ HGE.out.1 HGE.out.2 HLW.out ho3 hg3)).mono (Nat.le_succ k))
          have HCS := Lib.hid (show cs X ++ [begun k] = cs (X ++ [y]) from by unfold cs; rw [List.map_append, ← HY.out]; rfl)
          clear ho3 hg3 hl3
          go_wp2
          go_round
          case rel => exact ⟨k + 1, _, by have := HKL.out; omega, by go_num, HO3.out, by rw [← HCS.out]; exact HRN.out, HB3.out⟩
          case measure => simp [intOf]; omega
        · obtain ⟨j, cj, hj, hcj, hov⟩ := fits_at h0 HF.out
          have hjl : j < X.length := by have := (List.getElem?_eq_some_iff.1 hcj).1; rwa [cs_len] at this
          have hy : X[j]? = some X[j] := List.getElem?_eq_getElem hjl
          generalize hYY : X[j] = y at hy
          obtain rfl : y.c = cj := Option.some.inj ((cs_at hy).symm.trans hcj)
          have HY := Lib.hid hy
          have HGB := Lib.hid (show y.c.b ≤ k from by have := (HGA.out y (List.mem_of_getElem? hy)).b; omega)
          have HGY := Lib.hid (show Gc y.c from (HGA.out y (List.mem_of_getElem? hy)).gc (by omega))
          have HKD := Lib.hid (show e.kd = 1 ∨ e.kd = 2 ∨ e.kd = 3 ∨ e.kd = 4 from by rcases fits_kd HF.out with h | h | h | h | h <;> omega)
          have HRN := Lib.hid (show run 0 [] (L.take (k + 1)) = some (cs (X.set j ⟨y.rb, y.wb, note y.c k e⟩)) from by rw [HRT.out, step_note k h0 hj hcj, cs_set])
          obtain ⟨g, cp', ev, _, _, _⟩ := own_at HO.out (by omega)
          obtain ⟨rfl, _, rfl⟩ := Value.slice.inj ev
          obtain ⟨kd, id, x, vk, vn⟩ := e
          dsimp only at h0 hj c0 c1 c2 c3 c4 HKD
          subst hj
          have HWJ := Lib.hid (show IntKind.i64.wrap ((j : Nat) : Int) = (j : Nat) from wrap_nat (by omega))
          have HJ := Lib.hid (show j < X.length ∧ (X.length : Int) ≤ 32 from ⟨hjl, hXN⟩)
          clear hcj hov hYY hy ev
          unfold evA at HEB
          go_wp2_with fail
          refine (fits_val _ cp X ⟨kd, (j : Int) + 1, x, vk, vn⟩ _ (HA.out.below HEB.out.bel) (by have := HXL.out; omega) HF.out).mono ?_
          rintro r w1 ⟨rfl, hb⟩
          have HC := Lib.hid (show CSt w wr (.slice (some ⟨g, 0, none⟩) X.length cp) X k ⟨kd, (j : Int) + 1, x, vk, vn⟩ w1 from ⟨HEB.out.below hb, (HO.out.below HEB.out.bel).below hb⟩)
          clear hb c0 c1 c2 c3 c4
          have d0 := HC.out.eb.c0
          dsimp only at d0
          go_wp2
          refine wp_region_noPanic ?_
          refine region_z 8 (fun W => CSt w wr (.slice (some ⟨g, 0, none⟩) X.length cp) X k ⟨kd, (j : Int) + 1, x, vk, vn⟩ W) 7 1000 rfl (by kernel_rfl) (by exact HC.out.drew) (fun hHeld => ?_)
          refine take_d [4, 7] 0 29 (.slice (some ⟨g, 0, none⟩) X.length cp) rfl rfl (by kernel_rfl) (by kernel_rfl) (by kernel_rfl) (by kernel_rfl) (fun _ _ _ h => h) (Or.inl ⟨by rfl, by intro W hW; clear hW; go_simp⟩) hHeld ?_
          simp only [put_laws]
          refine take_d [2, 3, 4, 7] 1 30 (.pointer (some ⟨wr.heap.size, 1, none⟩)) rfl rfl (by kernel_rfl) (by kernel_rfl) (by kernel_rfl) (by kernel_rfl) (fun _ _ _ h => h) (Or.inl ⟨by rfl, by intro W hW; clear hW; go_simp⟩) hHeld ?_
          simp only [put_laws]
          refine take_d [3, 4, 7] 2 31 (.int .i64 ((j : Int) + 1)) rfl rfl (by kernel_rfl) (by kernel_rfl) (by kernel_rfl) (by kernel_rfl) (fun _ _ _ h => h) (Or.inl ⟨by rfl, by intro W hW; have c := hW.eb.c1; clear hW; go_simp⟩) hHeld ?_
          simp only [put_laws]
          refine take_d [4, 7] 3 32 (.int .i64 (j : Nat)) rfl rfl (by kernel_rfl) (by kernel_rfl) (by kernel_rfl) (by kernel_rfl) (fun _ _ _ h => h) (Or.inl ⟨by rfl, by intro W hW; have hj := HJ.out; have hwj := HWJ.out; clear hW; go_simp⟩) hHeld ?_
          simp only [put_laws]
          refine take_d [7] 4 33 (.pointer (some ⟨g, j * 4, none⟩)) rfl rfl (by kernel_rfl) (by kernel_rfl) (by kernel_rfl) (by kernel_rfl) (fun _ _ _ h => h) (Or.inl ⟨by rfl, by intro W hW; have hj := HJ.out; clear hW; go_simp⟩) hHeld ?_
          simp only [put_laws]
          refine take_d [7] 5 34 (.int .i64 (k : Nat)) rfl rfl (by kernel_rfl) (by kernel_rfl) (by kernel_rfl) (by kernel_rfl) (fun _ _ _ h => h) (Or.inl ⟨by rfl, by intro W hW; clear hW; go_simp⟩) hHeld ?_
          simp only [put_laws]
          refine take_d [7] 6 35 (.agg (#[.int .i64 kd, .int .i64 ((j : Int) + 1), .int .i64 x, .int .i64 vk, .int .i64 vn])) rfl rfl (by kernel_rfl) (by kernel_rfl) (by kernel_rfl) (by kernel_rfl) (fun _ _ _ h => h) (Or.inl ⟨by rfl, by intro W hW; have c0 := hW.eb.c0; have c1 := hW.eb.c1; have c2 := hW.eb.c2; have c3 := hW.eb.c3; have c4 := hW.eb.c4; clear hW; go_simp⟩) hHeld ?_
          simp only [put_laws]
          refine anyZ_ready (rs := [7]) (by kernel_rfl) (by simp) ?_
          refine AllZ.last rfl rfl (fun K hK => ?_)
          go_simp
          refine (note_all (e := ⟨kd, (j : Int) + 1, x, vk, vn⟩) hHeld.own HY.out HEK.out (by have := HKL.out; omega) (by have := HKL.out; omega) (HGB.out) HGY.out HKD.out).mono ?_
          rintro r w2 ⟨rfl, ho2, hb2⟩
          try go_simp
          have HO2 := Lib.hid ho2
          have HB2 := Lib.hid ((HB.out.trans (hHeld.eb.bel.mono HB.out.size)).trans hb2)
          refine hK.out _ _ ?_
          clear hK K hHeld ho2 hb2
          refine anyZ_done (by kernel_rfl) ?_ _
          refine NoPanic.normal ?_
          go_wp2
          go_roundw
          case rel => exact ⟨k + 1, _, by have := HKL.out; omega, by go_num, HO2.out, HRN.out, HB2.out⟩
          case measure => simp [intOf]; omega
    · have hlt' : ¬ (k : Int) < (L.length : Int) := by omega
      have hcn : crs L = some (cs X) := by
        rw [crs_run hl]
        have := HR.out
        rwa [List.take_of_length_le (by omega)] at this
      obtain rfl : b = true := by rw [← HCR.out, hcn]; rfl
      have HCL := Lib.hid (show cs X = crL L from by unfold crL; rw [hcn]; rfl)
      clear hcn
      go_wp2
      go_ret2
      exact ⟨_, rfl, _, HO.out.mono (by omega), HCL.out, HB.out⟩
end Go.Proofs.Ytcfdndppkpjleaa.Hi
