/-
  The contract of the document's Entries.
-/
import Derived.Test.YtcfdndppkpjleaaHRef6
import Derived.Test.YtcfdndppkpjleaaAnyD
import Derived.Deep.CutRange
namespace Go.Proofs.Ytcfdndppkpjleaa.Hi
open Go.RowKit
open Tx (i64p Sp SlAt)
open Rp (Ent Xc encX OwnI ItAt RdX Off BoxX)
open Az
theorem step_store_row {w : World} {ops : Array Oper} {op : Oper} {a : Go.Act} {K : Go.Act → World → Prop} {Q : Exit → Go.Act → World → Prop} {E : Prop} (hgd : op.guard = none) (ty : TypeId) (x y : Operand) (ho : op.op = .store ty x y) (hds : op.dst = none)
    (g : Nat) (cs cs0 : Array Value) (t : TypeId) (hx : a.eval x = .pointer (some ⟨g, 0, none⟩)) (hy : a.eval y = .agg cs) (h : w.heap[g]? = some (.cells cs0 t (0, 0))) (hi : (Try.prog.info? ty).map (·.size) = some cs.size) (hs : cs0.size = cs.size) (h1 : cs.all (·.oneCell') = true)
    (hK : K a (w.setRow g cs)) : if Region.wanted op (yielded ops a.tmps) = true then Oper.wp Try.prog op a w K Q else E := by
  have hw : Region.wanted op (yielded ops a.tmps) = true := by simp [Region.wanted, hgd]
  rw [if_pos hw]
  refine wp_store_row ty x y ho g cs hx hy t _ h hi hs h1 ?_
  rw [hds]; exact hK
theorem step_rv (e : Ev) (b : Bool) (hb : (e.kd == 2) = b) (w : World) :
    Calls Try.prog 41 #[.agg (evA e)] w fun r w' => r = .returned (.agg #[.int .i64 e.x, .int .i64 e.k, .int .i64 e.n, .bool b]) ∧ Below w.heap.size w w' := step_r e b hb w
theorem atI {w : World} {A : Option Addr} {X : List Int} (h : Rn.At encI w A X) {j : Nat} {x : Int} (hx : X[j]? = some x) : ∃ ad, A = some ad ∧ w.cell? (ad.add j) = some (.int .i64 x) := by
  obtain ⟨ad, e, hc⟩ := h.get hx
  exact ⟨ad, e, by have := hc 0 _ rfl; simpa using this⟩
theorem at_blk {W : World} {b : Nat} {s : Sp} (h : Rp.Blk W b #[.int .i64 s.x, .int .i64 s.k, .int .i64 s.n, .bool s.wr] 89) : Rn.At encS W (some ⟨b, 0, none⟩) [s] :=
  ⟨fun _ => ⟨_, rfl, fun j u hu => by
    have hadd : (⟨b, 0, none⟩ : Addr).add j = ⟨b, j, none⟩ := by unfold Addr.add; split <;> simp_all
    rw [hadd, cell_of_row _ b j _ 89 (0, 0) h]
    simpa [Rn.flat, Tx.cellsOf] using hu⟩⟩
theorem rent_row (x : Xc) : (Try.prog.info? 77).map (·.size) = some (Rp.entA x).size := by
  obtain ⟨i0, hi, hz0, hz1, hz2⟩ := info_parts Rp.rent_info
  rw [hi, Option.map_some, hz1]; rfl
theorem rent_one (x : Xc) : (Rp.entA x).all (·.oneCell') = true := by
  rw [Array.all_eq_true']
  intro u hu
  simp [Rp.entA] at hu
  rcases hu with rfl | rfl | rfl | rfl | rfl <;> rfl
theorem dec_if (b : Bool) (n : Nat) : decide (0 ≤ if b = true then (n : Int) else -1) = b := by
  cases b
  · rfl
  · rw [if_pos rfl, decide_eq_true_eq]; omega
/-- all that lay there. -/
structure B6 (w W : World) : Prop where
  bel : Below w.heap.size w W
theorem B6.below {w W W' : World} (h : B6 w W) (hb : Below W.heap.size W W') : B6 w W' := ⟨h.bel.trans (hb.mono h.bel.size)⟩
theorem B6.drew {w W : World} (h : B6 w W) : B6 w W.drew := h.below (Below.refl _ _).drew
theorem rdK_ok {L : List Ev} {c : Cr} (h : Okc L.length c) (hok : ∀ e ∈ L, e.ok) (k : Nat) : ∀ s ∈ rdK L c k, s.ok := fun s hs => by
  obtain ⟨x, _, hx⟩ := mem_rise_iff.1 hs
  rw [Option.map_eq_some_iff] at hx
  obtain ⟨n, hn, rfl⟩ := hx
  exact steps_ok h.rdL hok hn
theorem wtK_ok {L : List Ev} {c : Cr} (h : Okc L.length c) (hok : ∀ e ∈ L, e.ok) (k : Nat) : ∀ s ∈ wtK L c k, s.ok := fun s hs => by
  obtain ⟨x, _, hx⟩ := mem_rise_iff.1 hs
  split at hx
  · rw [Option.map_eq_some_iff] at hx
    obtain ⟨n, hn, rfl⟩ := hx
    exact steps_ok h.wrL hok hn
  · cases hx
theorem rdK_len (L : List Ev) (c : Cr) (k : Nat) : (rdK L c k).length ≤ k := Tx.rise_len _ _
theorem wtK_len (L : List Ev) (c : Cr) (k : Nat) : (wtK L c k).length ≤ k := Tx.rise_len _ _
theorem own_nil {W : World} {base : Nat} : Rn.Own encS W base 89 (.slice none 0 0) [] := Rn.Own.nil _ _ _
theorem NE.start {wr w6 w7 W : World} {L : List Ev} {q : Nat} {x : Xc} (hx : BoxX w6 wr.heap.size 77 x) (hb : Below wr.heap.size wr w6) (hb7 : Below w6.heap.size w6 w7) (hq : w7.heap.size = q) (hm : W.heap[q]? = some (.cells (metA L) 86 (0, 0))) (hb8 : Below w7.heap.size w7 W)
    (hA : x.A = none) (hB : x.B = none) (hr : x.e.rd = []) (hw : x.e.wt = []) (hc : x.c = 0) (hd : x.d = 0) : NE wr L q (q + 1) x W := by
  have h1 := hx.lt
  have h2 := hb7.size
  have h3 := (Array.getElem?_eq_some_iff.1 hm).1
  have h67 := hb7.trans (hb8.mono h2)
  refine ⟨hb.trans (h67.mono hb.size), hx.below h67 h1, hm, ?_, ?_, ?_, by omega, by omega, by omega⟩
  · rw [hA, hr, hc]; exact own_nil
  · rw [hB, hw, hd]; exact own_nil
  · intro a ha
    rw [hA, hr, hc] at ha
    cases ha
def NxRel (wr : World) (L : List Ev) (q r0 j : Nat) (cr : Cr) (i : Value) (wx : World) : Prop := ∃ (k : Nat) (x : Xc), k ≤ 64 ∧ i = .int .i64 (k : Nat) ∧ x.e = entK L j cr k ∧ NE wr L q r0 x wx
def EoRel (w1 : World) (L : List Ev) (l : List Cr) (v i : Value) (wr : World) : Prop := ∃ (k : Nat) (Y : List Xc), k ≤ l.length ∧ i = .int .i64 (k : Nat) ∧ OwnI 77 wr w1.heap.size v Y ((List.range k).map (entF L l)) ∧ B6 w1 wr
theorem wr_pos {c : Cr} {x : Int} {v : Int} (h : v = if c.com = true then nI (c.wr x) else -1) (hp : 0 ≤ v) : ∃ m : Nat, c.com = true ∧ c.wr x = some m ∧ v = (m : Int) := by
  cases hm : c.com with
  | false => rw [hm] at h; simp at h; omega
  | true =>
    rw [hm, if_pos rfl] at h
    cases hw : c.wr x with
    | none => rw [hw] at h; unfold nI at h; simp at h; omega
    | some m => rw [hw] at h; exact ⟨m, rfl, rfl, h⟩
theorem met_pos {L : List Ev} {x : Nat} (h : met L x = true) : 0 < L.length := by
  unfold met at h
  rcases L with _ | ⟨e, L⟩
  · cases h
  · simp
theorem not_met {L : List Ev} {l : List Cr} (h : Rw L l) {j : Nat} {c : Cr} (hc : l[j]? = some c) {k : Nat} (hm : met L k = false) : c.rd (k : Int) = none ∧ c.wr (k : Int) = none := by
  refine ⟨?_, ?_⟩
  · cases hr : c.rd (k : Int) with
    | none => rfl
    | some n =>
      obtain ⟨e, h1, _, h3⟩ := h.rdE hc hr
      rw [met_at h1 h3] at hm; cases hm
  · cases hr : c.wr (k : Int) with
    | none => rfl
    | some n =>
      obtain ⟨e, h1, _, h3⟩ := h.wrE hc hr
      rw [met_at h1 h3] at hm; cases hm
theorem ent_next {L : List Ev} {j k : Nat} {c : Cr} {x : Ent} {R W : List Sp} (h : x = entK L j c k) (hr : rdK L c (k + 1) = R) (hw : wtK L c (k + 1) = W) : (⟨x.id, x.com, x.ovr, R, W⟩ : Ent) = entK L j c (k + 1) := by
  subst h; unfold entK; rw [hr, hw]
set_option maxRecDepth 100000 in
set_option maxHeartbeats 16000000 in
theorem entries_r (A : Option Addr) (c : Nat) (L : List Ev) (w : World) (h : Rn.At encE w A L) (hok : ∀ e ∈ L, e.ok) (hl : L.length ≤ 300) (hc : L.length ≤ c) (hcm : c ≤ maxLen) :
    Calls Try.prog 19 #[.slice A L.length c] w (ItS (entL L) w) := by
  have H := Lib.hid h
  have HOK := Lib.hid hok
  have HL := Lib.hid (show L.length ≤ 2000 from by omega)
  have HIDS := Lib.hid (ids_r A c L w h hl hc hcm)
  clear h hok hc hcm
  unfold entL
  cases hcs : crs L with
  | none =>
    have hL0 : crL L = [] := by unfold crL; rw [hcs]; rfl
    rw [hL0] at HIDS ⊢
    clear hcs hL0
    go_enter Try.func19, Try.ntmps19
    go_wp2_with fail
    refine HIDS.out.mono ?_
    rintro r w1 ⟨BI, di, rfl, _, _, _, hb⟩
    have HB := Lib.hid hb
    clear hb
    rw [show (idsL ([] : List Cr).length).length = 0 from rfl]
    go_wp2
    go_loopw [3, 5] (fun v i wr => v = .slice none 0 0 ∧ i = .int .i64 0 ∧ wr = w1) (fun _ _ _ => 0)
    case atStart => exact ⟨rfl, rfl, rfl⟩
    case round =>
      obtain ⟨rfl, rfl, hwr⟩ := hrel
      subst hwr
      go_wp2
      go_ret
      exact ⟨none, 0, [], rfl, Nat.le_refl _, by unfold maxLen; omega, ⟨Rn.At.nil _ _, rfl, by simp⟩, HB.out⟩
  | some l =>
    have hL0 : crL L = l := by unfold crL; rw [hcs]; rfl
    have HRW := Lib.hid (show Rw L l from ⟨(crs_some hcs).2, HL.out⟩)
    rw [hL0] at HIDS ⊢
    have hNN : (l.length : Int) ≤ 32 := by have := HRW.out.few; omega
    clear hcs hL0
    go_enter Try.func19, Try.ntmps19
    go_wp2_with fail
    refine HIDS.out.mono ?_
    rintro r w1 ⟨BI, di, rfl, _, _, hat, hb⟩
    have HI1 := Lib.hid hat
    have HB := Lib.hid hb
    have H1 := Lib.hid (H.out.below hb (Nat.le_refl _))
    clear hat hb
    rw [idsL_len]
    go_wp2
    go_loopw [3, 5] (EoRel w1 L l) (fun _ i _ => l.length - (intOf i).toNat)
    case atStart => exact ⟨0, [], Nat.zero_le _, rfl, OwnI.nil _ _ _, ⟨Below.refl _ _⟩⟩
    case round =>
      obtain ⟨k, Y, hk, rfl, hown, hs⟩ := hrel
      have HO := Lib.hid hown
      have HS := Lib.hid hs
      clear hown hs
      obtain ⟨w0, hw0⟩ : ∃ w0, w0 = wr := ⟨_, rfl⟩
      subst hw0
      by_cases hlt : k < l.length
      · obtain ⟨cr, hcr⟩ : ∃ cr, l[k]? = some cr := ⟨_, List.getElem?_eq_getElem hlt⟩
        have HCR := Lib.hid hcr
        have HAW := Lib.hid (H1.out.below HS.out.bel (Nat.le_refl _))
        have HIW := Lib.hid (HI1.out.below HS.out.bel (Nat.le_refl _))
        have hlt' : (k : Int) < (l.length : Int) := by omega
        have HKN := Lib.hid hlt
        have HKI := Lib.hid hlt'
        have HIK := Lib.hid (idsL_get hlt)
        obtain ⟨ai, rfl, hic⟩ := atI HIW.out HIK.out
        have hwc0 := HRW.out.tie.c3 k
        have hen0 := HRW.out.tie.e HRW.out.com k
        rw [hcr] at hwc0 hen0
        generalize hwc : whI L 3 ((k : Int) + 1) = wc at hwc0
        generalize hen : enI L ((k : Int) + 1) = en at hen0
        have HWC := Lib.hid hwc
        have HEN := Lib.hid hen
        have HQ1 := Lib.hid (show decide (0 ≤ wc) = cr.com from by rw [hwc0]; exact dec_if _ _)
        have HQ2 := Lib.hid (show decide (0 ≤ en) = over cr from by rw [hen0]; exact dec_if _ _)
        clear hcr hwc0 hen0 hwc hen hic
        go_wp2
        go_cut [6] from 19 to 37 (fun u wx => u = .pointer (some ⟨w0.heap.size, 0, none⟩) ∧ BoxX wx w0.heap.size 77 ⟨⟨(k : Int) + 1, cr.com, over cr, [], []⟩, none, 0, none, 0⟩ ∧ Below w0.heap.size w0 wx)
        case first =>
          refine wp_region_noPanic ?_
          refine region_z 21 (fun W => B6 w0 W) 20 1000 rfl (by kernel_rfl) (by exact (B6.mk (Below.refl _ _)).drew) (fun hHeld => ?_)
          refine take_d [2, 3, 18, 20] 0 19 (.slice (some ai) l.length di) rfl rfl (by kernel_rfl) (by kernel_rfl) (by kernel_rfl) (by kernel_rfl) (fun _ _ _ h => h) (Or.inl ⟨by rfl, by intro W hW; clear hW; go_simp⟩) hHeld ?_
          simp only [put_laws]
          refine take_d [2, 3, 18, 20] 1 20 (.int .i64 (k : Nat)) rfl rfl (by kernel_rfl) (by kernel_rfl) (by kernel_rfl) (by kernel_rfl) (fun _ _ _ h => h) (Or.inl ⟨by rfl, by intro W hW; clear hW; go_simp⟩) hHeld ?_
          simp only [put_laws]
          refine take_d [3, 18, 20] 2 21 (.pointer (some (ai.add k))) rfl rfl (by kernel_rfl) (by kernel_rfl) (by kernel_rfl) (by kernel_rfl) (fun _ _ _ h => h) (Or.inl ⟨by rfl, by intro W hW; have h1 := HKN.out; have h2 := HKI.out; clear hW; go_simp⟩) hHeld ?_
          simp only [put_laws]
          refine take_d [18, 20] 3 22 (.int .i64 ((k : Int) + 1)) rfl rfl (by kernel_rfl) (by kernel_rfl) (by kernel_rfl) (by kernel_rfl) (fun _ _ _ h => h) (Or.inl ⟨by rfl, by intro W hW; have hh := atI (HIW.out.below hW.bel (Nat.le_refl _)) HIK.out; obtain ⟨ad2, e2, hh⟩ := hh; have e2 := Option.some.inj e2; subst e2; clear hW; go_simp⟩) hHeld ?_
          simp only [put_laws]
          refine take_d [9, 10, 16, 17, 18, 20] 4 23 (.slice A L.length c) rfl rfl (by kernel_rfl) (by kernel_rfl) (by kernel_rfl) (by kernel_rfl) (fun _ _ _ h => h) (Or.inl ⟨by rfl, by intro W hW; clear hW; go_simp⟩) hHeld ?_
          simp only [put_laws]
          refine take_d [7, 8, 9, 10, 16, 17, 18, 20] 5 24 (.slice (some ai) l.length di) rfl rfl (by kernel_rfl) (by kernel_rfl) (by kernel_rfl) (by kernel_rfl) (fun _ _ _ h => h) (Or.inl ⟨by rfl, by intro W hW; clear hW; go_simp⟩) hHeld ?_
          simp only [put_laws]
          refine take_d [7, 8, 9, 10, 16, 17, 18, 20] 6 25 (.int .i64 (k : Nat)) rfl rfl (by kernel_rfl) (by kernel_rfl) (by kernel_rfl) (by kernel_rfl) (fun _ _ _ h => h) (Or.inl ⟨by rfl, by intro W hW; clear hW; go_simp⟩) hHeld ?_
          simp only [put_laws]
          refine take_d [8, 9, 10, 16, 17, 18, 20] 7 26 (.pointer (some (ai.add k))) rfl rfl (by kernel_rfl) (by kernel_rfl) (by kernel_rfl) (by kernel_rfl) (fun _ _ _ h => h) (Or.inl ⟨by rfl, by intro W hW; have h1 := HKN.out; have h2 := HKI.out; clear hW; go_simp⟩) hHeld ?_
          simp only [put_laws]
          refine take_d [9, 10, 16, 17, 18, 20] 8 27 (.int .i64 ((k : Int) + 1)) rfl rfl (by kernel_rfl) (by kernel_rfl) (by kernel_rfl) (by kernel_rfl) (fun _ _ _ h => h) (Or.inl ⟨by rfl, by intro W hW; have hh := atI (HIW.out.below hW.bel (Nat.le_refl _)) HIK.out; obtain ⟨ad2, e2, hh⟩ := hh; have e2 := Option.some.inj e2; subst e2; clear hW; go_simp⟩) hHeld ?_
          simp only [put_laws]
          refine take_d [16, 17, 18, 20] 11 30 (.slice A L.length c) rfl rfl (by kernel_rfl) (by kernel_rfl) (by kernel_rfl) (by kernel_rfl) (fun _ _ _ h => h) (Or.inl ⟨by rfl, by intro W hW; clear hW; go_simp⟩) hHeld ?_
          simp only [put_laws]
          refine take_d [14, 15, 16, 17, 18, 20] 12 31 (.slice (some ai) l.length di) rfl rfl (by kernel_rfl) (by kernel_rfl) (by kernel_rfl) (by kernel_rfl) (fun _ _ _ h => h) (Or.inl ⟨by rfl, by intro W hW; clear hW; go_simp⟩) hHeld ?_
          simp only [put_laws]
          refine take_d [14, 15, 16, 17, 18, 20] 13 32 (.int .i64 (k : Nat)) rfl rfl (by kernel_rfl) (by kernel_rfl) (by kernel_rfl) (by kernel_rfl) (fun _ _ _ h => h) (Or.inl ⟨by rfl, by intro W hW; clear hW; go_simp⟩) hHeld ?_
          simp only [put_laws]
          refine take_d [15, 16, 17, 18, 20] 14 33 (.pointer (some (ai.add k))) rfl rfl (by kernel_rfl) (by kernel_rfl) (by kernel_rfl) (by kernel_rfl) (fun _ _ _ h => h) (Or.inl ⟨by rfl, by intro W hW; have h1 := HKN.out; have h2 := HKI.out; clear hW; go_simp⟩) hHeld ?_
          simp only [put_laws]
          refine take_d [16, 17, 18, 20] 15 34 (.int .i64 ((k : Int) + 1)) rfl rfl (by kernel_rfl) (by kernel_rfl) (by kernel_rfl) (by kernel_rfl) (fun _ _ _ h => h) (Or.inl ⟨by rfl, by intro W hW; have hh := atI (HIW.out.below hW.bel (Nat.le_refl _)) HIK.out; obtain ⟨ad2, e2, hh⟩ := hh; have e2 := Option.some.inj e2; subst e2; clear hW; go_simp⟩) hHeld ?_
          simp only [put_laws]
          refine anyZ_ready (rs := [9, 19]) (by kernel_rfl) (by simp) ?_
          refine AllZ.cons rfl (fun K hK => ?_) (AllZ.cons rfl (fun K hK => ?_) AllZ.nil)
          · go_simp
            refine (where_val A c L 3 ((k : Int) + 1) wc _ (HAW.out.below hHeld.bel (Nat.le_refl _)) HL.out HWC.out).mono ?_
            rintro e w1 ⟨rfl, h9⟩
            subst w1
            try go_simp
            refine hK.out _ _ hHeld (fun hHeld => ?_)
            clear hK K
            refine take_d [18, 20] 10 29 (.bool cr.com) rfl rfl (by kernel_rfl) (by kernel_rfl) (by kernel_rfl) (by kernel_rfl) (fun _ _ _ h => h) (Or.inl ⟨by rfl, by intro W hW; have hq := HQ1.out; clear hW; go_simp⟩) hHeld ?_
            simp only [put_laws]
            refine anyZ_ready (rs := [16, 19]) (by kernel_rfl) (by simp) ?_
            refine AllZ.cons rfl (fun K hK => ?_) (AllZ.cons rfl (fun K hK => ?_) AllZ.nil)
            · go_simp
              refine (end_rv A c L ((k : Int) + 1) en _ (HAW.out.below hHeld.bel (Nat.le_refl _)) HL.out HEN.out).mono ?_
              rintro e w1 ⟨rfl, h9⟩
              subst w1
              try go_simp
              refine hK.out _ _ hHeld (fun hHeld => ?_)
              clear hK K
              refine take_d [18, 20] 17 36 (.bool (over cr)) rfl rfl (by kernel_rfl) (by kernel_rfl) (by kernel_rfl) (by kernel_rfl) (fun _ _ _ h => h) (Or.inl ⟨by rfl, by intro W hW; have hq := HQ2.out; clear hW; go_simp⟩) hHeld ?_
              simp only [put_laws]
              refine take_d [20] 18 37 (.agg #[.int .i64 ((k : Int) + 1), .bool cr.com, .bool (over cr), .slice none 0 0, .slice none 0 0]) rfl rfl (by kernel_rfl) (by kernel_rfl) (by kernel_rfl) (by kernel_rfl) (fun _ _ _ h => h) (Or.inl ⟨by rfl, by intro W hW; clear hW; go_simp⟩) hHeld ?_
              simp only [put_laws]
              refine anyZ_ready (rs := [19]) (by kernel_rfl) (by simp) ?_
              refine AllZ.cons rfl (fun K hK => ?_) AllZ.nil
              go_simp
              have hN : Rp.Blk ((w0.alloc (.cells #[.int .i64 0, .bool false, .bool false, .slice none 0 0, .slice none 0 0] 77)).drew) w0.heap.size #[.int .i64 0, .bool false, .bool false, .slice none 0 0, .slice none 0 0] 77 := Rp.Blk.new (w0.drew) #[.int .i64 0, .bool false, .bool false, .slice none 0 0, .slice none 0 0] 77
              have hPrev := hHeld
              have hHeld := hHeld.below (show Below _ _ ((w0.alloc (.cells #[.int .i64 0, .bool false, .bool false, .slice none 0 0, .slice none 0 0] 77)).drew) from Rn.below_new (w0.drew) (.cells #[.int .i64 0, .bool false, .bool false, .slice none 0 0, .slice none 0 0] 77))
              generalize (w0.alloc (.cells #[.int .i64 0, .bool false, .bool false, .slice none 0 0, .slice none 0 0] 77)).drew = w4 at *
              clear hPrev
              refine hK.out _ _ hHeld (fun hHeld => ?_)
              clear hK K
              refine anyZ_ready (rs := [20]) (by kernel_rfl) (by simp) ?_
              refine AllZ.last rfl rfl (fun K hK => ?_)
              refine step_store_row rfl 77 (.tmp 6) (.tmp 37) rfl rfl w0.heap.size (Rp.entA ⟨⟨(k : Int) + 1, cr.com, over cr, [], []⟩, none, 0, none, 0⟩) #[.int .i64 0, .bool false, .bool false, .slice none 0 0, .slice none 0 0] 77 rfl rfl hN (rent_row _) rfl (rent_one _) ?_
              refine hK.out _ _ ?_
              clear hK K
              refine anyZ_done (by kernel_rfl) ?_ _
              refine NoPanic.normal ?_
              go_wp2_with fail
              go_meet
              exact ⟨rfl, ⟨setRow_heap _ _ _ _ _ _ hN⟩, setRow_below hHeld.bel (Nat.le_refl _)⟩
            · go_simp
              have hN : Rp.Blk ((w0.alloc (.cells #[.int .i64 0, .bool false, .bool false, .slice none 0 0, .slice none 0 0] 77)).drew) w0.heap.size #[.int .i64 0, .bool false, .bool false, .slice none 0 0, .slice none 0 0] 77 := Rp.Blk.new (w0.drew) #[.int .i64 0, .bool false, .bool false, .slice none 0 0, .slice none 0 0] 77
              have hPrev := hHeld
              have hHeld := hHeld.below (show Below _ _ ((w0.alloc (.cells #[.int .i64 0, .bool false, .bool false, .slice none 0 0, .slice none 0 0] 77)).drew) from Rn.below_new (w0.drew) (.cells #[.int .i64 0, .bool false, .bool false, .slice none 0 0, .slice none 0 0] 77))
              generalize (w0.alloc (.cells #[.int .i64 0, .bool false, .bool false, .slice none 0 0, .slice none 0 0] 77)).drew = w4 at *
              clear hPrev
              refine hK.out _ _ hHeld (fun hHeld => ?_)
              clear hK K
              refine anyZ_ready (rs := [16]) (by kernel_rfl) (by simp) ?_
              refine AllZ.cons rfl (fun K hK => ?_) AllZ.nil
              go_simp
              refine (end_rv A c L ((k : Int) + 1) en _ (HAW.out.below hHeld.bel (Nat.le_refl _)) HL.out HEN.out).mono ?_
              rintro e w1 ⟨rfl, h9⟩
              subst w1
              try go_simp
              refine hK.out _ _ hHeld (fun hHeld => ?_)
              clear hK K
              refine take_d [18, 20] 17 36 (.bool (over cr)) rfl rfl (by kernel_rfl) (by kernel_rfl) (by kernel_rfl) (by kernel_rfl) (fun _ _ _ h => h) (Or.inl ⟨by rfl, by intro W hW; have hq := HQ2.out; clear hW; go_simp⟩) hHeld ?_
              simp only [put_laws]
              refine take_d [20] 18 37 (.agg #[.int .i64 ((k : Int) + 1), .bool cr.com, .bool (over cr), .slice none 0 0, .slice none 0 0]) rfl rfl (by kernel_rfl) (by kernel_rfl) (by kernel_rfl) (by kernel_rfl) (fun _ _ _ h => h) (Or.inl ⟨by rfl, by intro W hW; clear hW; go_simp⟩) hHeld ?_
              simp only [put_laws]
              refine anyZ_ready (rs := [20]) (by kernel_rfl) (by simp) ?_
              refine AllZ.last rfl rfl (fun K hK => ?_)
              refine step_store_row rfl 77 (.tmp 6) (.tmp 37) rfl rfl w0.heap.size (Rp.entA ⟨⟨(k : Int) + 1, cr.com, over cr, [], []⟩, none, 0, none, 0⟩) #[.int .i64 0, .bool false, .bool false, .slice none 0 0, .slice none 0 0] 77 rfl rfl hN (rent_row _) rfl (rent_one _) ?_
              refine hK.out _ _ ?_
              clear hK K
              refine anyZ_done (by kernel_rfl) ?_ _
              refine NoPanic.normal ?_
              go_wp2_with fail
              go_meet
              exact ⟨rfl, ⟨setRow_heap _ _ _ _ _ _ hN⟩, setRow_below hHeld.bel (Nat.le_refl _)⟩
          · go_simp
            have hN : Rp.Blk ((w0.alloc (.cells #[.int .i64 0, .bool false, .bool false, .slice none 0 0, .slice none 0 0] 77)).drew) w0.heap.size #[.int .i64 0, .bool false, .bool false, .slice none 0 0, .slice none 0 0] 77 := Rp.Blk.new (w0.drew) #[.int .i64 0, .bool false, .bool false, .slice none 0 0, .slice none 0 0] 77
            have hPrev := hHeld
            have hHeld := hHeld.below (show Below _ _ ((w0.alloc (.cells #[.int .i64 0, .bool false, .bool false, .slice none 0 0, .slice none 0 0] 77)).drew) from Rn.below_new (w0.drew) (.cells #[.int .i64 0, .bool false, .bool false, .slice none 0 0, .slice none 0 0] 77))
            generalize (w0.alloc (.cells #[.int .i64 0, .bool false, .bool false, .slice none 0 0, .slice none 0 0] 77)).drew = w4 at *
            clear hPrev
            refine hK.out _ _ hHeld (fun hHeld => ?_)
            clear hK K
            refine anyZ_ready (rs := [9]) (by kernel_rfl) (by simp) ?_
            refine AllZ.cons rfl (fun K hK => ?_) AllZ.nil
            go_simp
            refine (where_val A c L 3 ((k : Int) + 1) wc _ (HAW.out.below hHeld.bel (Nat.le_refl _)) HL.out HWC.out).mono ?_
            rintro e w1 ⟨rfl, h9⟩
            subst w1
            try go_simp
            refine hK.out _ _ hHeld (fun hHeld => ?_)
            clear hK K
            refine take_d [18, 20] 10 29 (.bool cr.com) rfl rfl (by kernel_rfl) (by kernel_rfl) (by kernel_rfl) (by kernel_rfl) (fun _ _ _ h => h) (Or.inl ⟨by rfl, by intro W hW; have hq := HQ1.out; clear hW; go_simp⟩) hHeld ?_
            simp only [put_laws]
            refine anyZ_ready (rs := [16]) (by kernel_rfl) (by simp) ?_
            refine AllZ.cons rfl (fun K hK => ?_) AllZ.nil
            go_simp
            refine (end_rv A c L ((k : Int) + 1) en _ (HAW.out.below hHeld.bel (Nat.le_refl _)) HL.out HEN.out).mono ?_
            rintro e w1 ⟨rfl, h9⟩
            subst w1
            try go_simp
            refine hK.out _ _ hHeld (fun hHeld => ?_)
            clear hK K
            refine take_d [18, 20] 17 36 (.bool (over cr)) rfl rfl (by kernel_rfl) (by kernel_rfl) (by kernel_rfl) (by kernel_rfl) (fun _ _ _ h => h) (Or.inl ⟨by rfl, by intro W hW; have hq := HQ2.out; clear hW; go_simp⟩) hHeld ?_
            simp only [put_laws]
            refine take_d [20] 18 37 (.agg #[.int .i64 ((k : Int) + 1), .bool cr.com, .bool (over cr), .slice none 0 0, .slice none 0 0]) rfl rfl (by kernel_rfl) (by kernel_rfl) (by kernel_rfl) (by kernel_rfl) (fun _ _ _ h => h) (Or.inl ⟨by rfl, by intro W hW; clear hW; go_simp⟩) hHeld ?_
            simp only [put_laws]
            refine anyZ_ready (rs := [20]) (by kernel_rfl) (by simp) ?_
            refine AllZ.last rfl rfl (fun K hK => ?_)
            refine step_store_row rfl 77 (.tmp 6) (.tmp 37) rfl rfl w0.heap.size (Rp.entA ⟨⟨(k : Int) + 1, cr.com, over cr, [], []⟩, none, 0, none, 0⟩) #[.int .i64 0, .bool false, .bool false, .slice none 0 0, .slice none 0 0] 77 rfl rfl hN (rent_row _) rfl (rent_one _) ?_
            refine hK.out _ _ ?_
            clear hK K
            refine anyZ_done (by kernel_rfl) ?_ _
            refine NoPanic.normal ?_
            go_wp2_with fail
            go_meet
            exact ⟨rfl, ⟨setRow_heap _ _ _ _ _ _ hN⟩, setRow_below hHeld.bel (Nat.le_refl _)⟩
        case rest =>
          obtain ⟨rfl, hbx, hbw⟩ := hcut
          have HX6 := Lib.hid hbx
          have HB6 := Lib.hid hbw
          clear hbx hbw
          go_wp2_with fail
          refine (vars_any A c L _ (HAW.out.below HB6.out (Nat.le_refl _)) HL.out).mono ?_
          rintro r w7 ⟨rfl, hb7⟩
          have HB7 := Lib.hid hb7
          clear hb7
          go_wp2_with (refine wpList_store_row rfl 86 (.tmp 7) (.tmp 39) rfl w7.heap.size (metA L) rfl rfl 86 _ (heap_alloc_new _ _) (by rw [metA_size]; exact boolarr_info) (by rw [metA_size]; rfl) (metA_one _) ?_)
          generalize hw8 : World.setRow _ w7.heap.size (metA L) = w8
          have hmb : w8.heap[w7.heap.size]? = some (.cells (metA L) 86 (0, 0)) ∧ Below w7.heap.size w7 w8 := by rw [← hw8]; exact ⟨setRow_heap _ _ _ _ _ _ (heap_alloc_new _ _), setRow_below (Rn.below_new _ _) (Nat.le_refl _)⟩
          generalize hq : w7.heap.size = q at hmb ⊢
          have HNE0 := Lib.hid (NE.start HX6.out HB6.out HB7.out hq hmb.1 (by rw [hq]; exact hmb.2) rfl rfl rfl rfl rfl rfl)
          clear hw8 hmb hq HB7 HB6 HX6
          generalize q + 1 = r0 at HNE0
          go_loopw [8] (NxRel w0 L q r0 k cr) (fun i _ => 64 - (intOf i).toNat)
          case atStart => exact ⟨0, _, by omega, rfl, rfl, HNE0.out⟩
          case round =>
            obtain ⟨x, xc, hx, rfl, hxe, hne⟩ := hrel
            have HNE := Lib.hid hne
            have HXE := Lib.hid hxe
            clear hne hxe
            by_cases hlx : x < 64
            · have hlx' : (x : Int) < 64 := by omega
              have hx0 : (0 : Int) ≤ (x : Int) := by omega
              have HX64 := Lib.hid hlx
              have hmt := cell_of_row _ _ x _ _ (0, 0) HNE.out.mt
              rw [metA_get L x hlx] at hmt
              cases hm : met L x with
              | false =>
                rw [hm] at hmt
                have hnm := not_met HRW.out HCR.out hm
                have HFIN := Lib.hid (ent_next HXE.out (rd_none hnm.1) (wt_none (by rw [hnm.2]; split <;> decide)))
                have HFE := Lib.hid (show xc.e = entK L k cr (x + 1) from by rw [← HFIN.out, HXE.out]; rfl)
                clear hm hnm
                go_wp2
                go_roundw
                case rel => exact ⟨x + 1, xc, by omega, by go_num, HFE.out, HNE.out⟩
                case measure => simp [intOf]; omega
              | true =>
                rw [hm] at hmt
                obtain ⟨ad, rfl, _⟩ := H1.out.cell (met_pos hm)
                obtain ⟨ai', e', hic⟩ := atI (HIW.out.below HNE.out.bel (Nat.le_refl _)) HIK.out
                obtain rfl := Option.some.inj e'
                clear hm
                obtain ⟨rv, hrv⟩ : ∃ rv, rdI L ((k : Int) + 1) (x : Int) = rv := ⟨_, rfl⟩
                obtain ⟨wv, hwv⟩ : ∃ wv, wrI L ((k : Int) + 1) (x : Int) = wv := ⟨_, rfl⟩
                have HRV := Lib.hid hrv
                have HWV := Lib.hid hwv
                have hrt := HRW.out.tie.rI HCR.out (x : Int)
                have hwt := HRW.out.tie.wI HCR.out (x : Int)
                rw [hrv] at hrt
                rw [hwv] at hwt
                have HWT := Lib.hid hwt
                clear hrv hwv hwt
                cases hrd : cr.rd (x : Int) with
                | none =>
                  rw [hrd] at hrt
                  change rv = -1 at hrt
                  subst hrt
                  have HRK := Lib.hid (rd_none (L := L) hrd)
                  clear hrd
                  have HRX := Lib.hid (show rdK L cr (x + 1) = xc.e.rd from by rw [HRK.out, HXE.out]; rfl)
                  go_wp2_with fail
                  refine (read_val (some ad) c L ((k : Int) + 1) (x : Int) _ _ (HAW.out.below HNE.out.bel (Nat.le_refl _)) HL.out HRV.out).mono ?_
                  rintro r w9 ⟨rfl, h9⟩
                  subst w9
                  go_wp2_with fail
                  refine (write_val (some ad) c L ((k : Int) + 1) (x : Int) _ _ (HAW.out.below HNE.out.bel (Nat.le_refl _)) HL.out HWV.out).mono ?_
                  rintro r w9 ⟨rfl, h9⟩
                  subst w9
                  obtain ⟨x1, hx1⟩ : ∃ x1, x1 = xc := ⟨_, rfl⟩
                  have HX1 := Lib.hid (show x1.e = ⟨xc.e.id, xc.e.com, xc.e.ovr, xc.e.rd, xc.e.wt⟩ from by rw [hx1])
                  have HN1 := Lib.hid (show NE w0 L q r0 x1 _ from by rw [hx1]; exact HNE.out)
                  clear hx1
                  by_cases hwp : 0 ≤ wv
                  · obtain ⟨n, hcm, hwm, rfl⟩ := wr_pos HWT.out hwp
                    obtain ⟨e, he, hek, hex⟩ := HRW.out.wrE HCR.out hwm
                    have HWK := Lib.hid (wt_some hcm hwm he hex)
                    have HE := Lib.hid he
                    have HNB := Lib.hid (show n < L.length ∧ (n : Int) < (L.length : Int) from ⟨(List.getElem?_eq_some_iff.1 he).1, by have := (List.getElem?_eq_some_iff.1 he).1; omega⟩)
                    have HLEN := Lib.hid (show x1.e.wt.length ≤ 64 from by rw [HX1.out, HXE.out]; exact Nat.le_trans (wtK_len _ _ _) hx)
                    have hn0 : (n : Int) ≥ 0 := hwp
                    clear he hek hex hwm hcm hwp
                    go_wp2
                    refine wp_region_noPanic ?_
                    refine region_z 11 (fun W => NE w0 L q r0 x1 W) 8 1000 rfl (by kernel_rfl) (by exact HN1.out.drew) (fun hHeld => ?_)
                    refine take_d [1, 8, 9, 10] 0 76 (.pointer (some ⟨w0.heap.size, 4, none⟩)) rfl rfl (by kernel_rfl) (by kernel_rfl) (by kernel_rfl) (by kernel_rfl) (fun _ _ _ h => h) (Or.inl ⟨by rfl, by intro W hW; clear hW; go_simp⟩) hHeld ?_
                    simp only [put_laws]
                    refine take_d [8, 9, 10] 1 77 (.slice x1.B x1.e.wt.length x1.d) rfl rfl (by kernel_rfl) (by kernel_rfl) (by kernel_rfl) (by kernel_rfl) (fun _ _ _ h => h) (Or.inl ⟨by rfl, by intro W hW; have c := hW.box.c4; clear hW; go_simp⟩) hHeld ?_
                    simp only [put_laws]
                    refine take_d [4, 5, 6, 7, 8, 9, 10] 2 78 (.slice (some ad) L.length c) rfl rfl (by kernel_rfl) (by kernel_rfl) (by kernel_rfl) (by kernel_rfl) (fun _ _ _ h => h) (Or.inl ⟨by rfl, by intro W hW; clear hW; go_simp⟩) hHeld ?_
                    simp only [put_laws]
                    refine take_d [4, 5, 6, 7, 8, 9, 10] 3 79 (.int .i64 (n : Nat)) rfl rfl (by kernel_rfl) (by kernel_rfl) (by kernel_rfl) (by kernel_rfl) (fun _ _ _ h => h) (Or.inl ⟨by rfl, by intro W hW; clear hW; go_simp⟩) hHeld ?_
                    simp only [put_laws]
                    refine take_d [5, 6, 7, 8, 9, 10] 4 80 (.pointer (some (ad.add (n * 5)))) rfl rfl (by kernel_rfl) (by kernel_rfl) (by kernel_rfl) (by kernel_rfl) (fun _ _ _ h => h) (Or.inl ⟨by rfl, by intro W hW; have h1 := HNB.out.1; have h2 := HNB.out.2; clear hW; go_simp⟩) hHeld ?_
                    simp only [put_laws]
                    refine take_d [6, 7, 8, 9, 10] 5 81 (.agg (#[.int .i64 e.kd, .int .i64 e.id, .int .i64 e.x, .int .i64 e.k, .int .i64 e.n])) rfl rfl (by kernel_rfl) (by kernel_rfl) (by kernel_rfl) (by kernel_rfl) (fun _ _ _ h => h) (Or.inl ⟨by rfl, by intro W hW; have hh := atE (HAW.out.below hW.bel (Nat.le_refl _)) HE.out; obtain ⟨ad2, e2, hh⟩ := hh; have e2 := Option.some.inj e2; subst e2; obtain ⟨c0, c1, c2, c3, c4⟩ := hh; clear hW; go_simp⟩) hHeld ?_
                    simp only [put_laws]
                    refine anyZ_ready (rs := [6]) (by kernel_rfl) (by simp) ?_
                    refine AllZ.cons rfl (fun K hK => ?_) AllZ.nil
                    go_simp
                    refine (step_rv e (e.kd == 2) rfl _).mono ?_
                    rintro e w3 ⟨rfl, hb⟩
                    try go_simp
                    have hPrev := hHeld
                    have hHeld := hHeld.below hb
                    clear hPrev
                    refine hK.out _ _ hHeld (fun hHeld => ?_)
                    clear hK K
                    refine anyZ_ready (rs := [7]) (by kernel_rfl) (by simp) ?_
                    refine AllZ.cons rfl (fun K hK => ?_) AllZ.nil
                    go_simp
                    have hN : Rp.Blk ((w3.alloc (.cells #[.int .i64 e.x, .int .i64 e.k, .int .i64 e.n, .bool (e.kd == 2)] 89))) (w3.heap.size) #[.int .i64 e.x, .int .i64 e.k, .int .i64 e.n, .bool (e.kd == 2)] 89 := Rp.Blk.new (w3) #[.int .i64 e.x, .int .i64 e.k, .int .i64 e.n, .bool (e.kd == 2)] 89
                    have hPrev := hHeld
                    have hHeld := hHeld.below (show Below _ _ ((w3.alloc (.cells #[.int .i64 e.x, .int .i64 e.k, .int .i64 e.n, .bool (e.kd == 2)] 89))) from Rn.below_new (w3) (.cells #[.int .i64 e.x, .int .i64 e.k, .int .i64 e.n, .bool (e.kd == 2)] 89))
                    generalize (w3.alloc (.cells #[.int .i64 e.x, .int .i64 e.k, .int .i64 e.n, .bool (e.kd == 2)] 89)) = w4 at *
                    clear hPrev
                    refine hK.out _ _ hHeld (fun hHeld => ?_)
                    clear hK K
                    refine anyZ_ready (rs := [8]) (by kernel_rfl) (by simp) ?_
                    refine AllZ.last rfl rfl (fun K hK => ?_)
                    refine Rp.step_append_rowG encS vtS rfl (.tmp 77) (.tmp 83) rfl (v := .slice x1.B x1.e.wt.length x1.d) rfl hHeld.wt _ _ [⟨e.x, e.k, e.n, e.kd == 2⟩] rfl rfl (at_blk (s := ⟨e.x, e.k, e.n, e.kd == 2⟩) hN) (by simp) (by have := HLEN.out; simp; omega) hHeld.lt.2.2 ?_
                    intro v' w5 ho5 hg5 hl5
                    have hS5 := hHeld.addW ho5 hg5 hl5
                    clear hHeld ho5 hg5 hl5 hN
                    obtain ⟨A5, c5, rfl, hS5, hc5, hf5⟩ := hS5
                    rw [List.length_append, List.length_singleton] at hS5
                    have HNE5 := Lib.hid hS5
                    clear hS5
                    refine hK.out _ _ ?_
                    clear hK K
                    refine anyZ_ready (rs := [9]) (by kernel_rfl) (by simp) ?_
                    refine AllZ.last rfl rfl (fun K hK => ?_)
                    go_simp
                    refine hK.out _ _ ?_
                    clear hK K
                    refine anyZ_ready (rs := [10]) (by kernel_rfl) (by simp) ?_
                    refine AllZ.last rfl rfl (fun K hK => ?_)
                    go_simp
                    refine hK.out _ _ ?_
                    clear hK K hc5 hf5
                    refine anyZ_done (by kernel_rfl) ?_ _
                    refine NoPanic.normal ?_
                    go_wp2
                    go_roundw
                    case rel => exact ⟨x + 1, ⟨⟨x1.e.id, x1.e.com, x1.e.ovr, x1.e.rd, x1.e.wt ++ [⟨e.x, e.k, e.n, e.kd == 2⟩]⟩, x1.A, x1.c, A5, c5⟩, by have := HX64.out; omega, by go_num, (show (⟨x1.e.id, x1.e.com, x1.e.ovr, x1.e.rd, x1.e.wt ++ [⟨e.x, e.k, e.n, e.kd == 2⟩]⟩ : Ent) = _ from by
                      have h := ent_next HXE.out HRX.out (show wtK L cr (x + 1) = xc.e.wt ++ [⟨e.x, e.k, e.n, e.kd == 2⟩] from by rw [HWK.out, HXE.out]; rfl)
                      rw [HX1.out]; exact h), HNE5.out⟩
                    case measure => simp [intOf]; have := HX64.out; omega
                  · have hwn : ¬ wv ≥ 0 := hwp
                    have HWK := Lib.hid (wt_none (L := L) (k := x) (by rw [← HWT.out]; omega))
                    clear hwp
                    go_wp2
                    go_roundw
                    case rel => exact ⟨x + 1, x1, by have := HX64.out; omega, by go_num, by
                      have h := ent_next HXE.out HRX.out (show wtK L cr (x + 1) = xc.e.wt from by rw [HWK.out, HXE.out]; rfl)
                      rw [HX1.out]; exact h, HN1.out⟩
                    case measure => simp [intOf]; have := HX64.out; omega
                | some n =>
                  rw [hrd] at hrt
                  change rv = (n : Int) at hrt
                  subst hrt
                  obtain ⟨e, he, hek, hex⟩ := HRW.out.rdE HCR.out hrd
                  have HE := Lib.hid he
                  have HNB := Lib.hid (show n < L.length ∧ (n : Int) < (L.length : Int) from ⟨(List.getElem?_eq_some_iff.1 he).1, by have := (List.getElem?_eq_some_iff.1 he).1; omega⟩)
                  have HRK := Lib.hid (rd_some hrd he hex)
                  have hn0 : (n : Int) ≥ 0 := by omega
                  have HLEN := Lib.hid (show xc.e.rd.length ≤ 64 from by rw [HXE.out]; exact Nat.le_trans (rdK_len _ _ _) hx)
                  clear he hek hex hrd
                  go_wp2_with fail
                  refine (read_val (some ad) c L ((k : Int) + 1) (x : Int) _ _ (HAW.out.below HNE.out.bel (Nat.le_refl _)) HL.out HRV.out).mono ?_
                  rintro r w9 ⟨rfl, h9⟩
                  subst w9
                  go_wp2_with fail
                  refine (write_val (some ad) c L ((k : Int) + 1) (x : Int) _ _ (HAW.out.below HNE.out.bel (Nat.le_refl _)) HL.out HWV.out).mono ?_
                  rintro r w9 ⟨rfl, h9⟩
                  subst w9
                  go_wp2
                  refine wp_region_noPanic ?_
                  refine region_z 11 (fun W => NE w0 L q r0 xc W) 8 1000 rfl (by kernel_rfl) (by exact HNE.out.drew) (fun hHeld => ?_)
                  refine take_d [1, 8, 9, 10] 0 64 (.pointer (some ⟨w0.heap.size, 3, none⟩)) rfl rfl (by kernel_rfl) (by kernel_rfl) (by kernel_rfl) (by kernel_rfl) (fun _ _ _ h => h) (Or.inl ⟨by rfl, by intro W hW; clear hW; go_simp⟩) hHeld ?_
                  simp only [put_laws]
                  refine take_d [8, 9, 10] 1 65 (.slice xc.A xc.e.rd.length xc.c) rfl rfl (by kernel_rfl) (by kernel_rfl) (by kernel_rfl) (by kernel_rfl) (fun _ _ _ h => h) (Or.inl ⟨by rfl, by intro W hW; have c := hW.box.c3; clear hW; go_simp⟩) hHeld ?_
                  simp only [put_laws]
                  refine take_d [4, 5, 6, 7, 8, 9, 10] 2 66 (.slice (some ad) L.length c) rfl rfl (by kernel_rfl) (by kernel_rfl) (by kernel_rfl) (by kernel_rfl) (fun _ _ _ h => h) (Or.inl ⟨by rfl, by intro W hW; clear hW; go_simp⟩) hHeld ?_
                  simp only [put_laws]
                  refine take_d [4, 5, 6, 7, 8, 9, 10] 3 67 (.int .i64 (n : Nat)) rfl rfl (by kernel_rfl) (by kernel_rfl) (by kernel_rfl) (by kernel_rfl) (fun _ _ _ h => h) (Or.inl ⟨by rfl, by intro W hW; clear hW; go_simp⟩) hHeld ?_
                  simp only [put_laws]
                  refine take_d [5, 6, 7, 8, 9, 10] 4 68 (.pointer (some (ad.add (n * 5)))) rfl rfl (by kernel_rfl) (by kernel_rfl) (by kernel_rfl) (by kernel_rfl) (fun _ _ _ h => h) (Or.inl ⟨by rfl, by intro W hW; have h1 := HNB.out.1; have h2 := HNB.out.2; clear hW; go_simp⟩) hHeld ?_
                  simp only [put_laws]
                  refine take_d [6, 7, 8, 9, 10] 5 69 (.agg (#[.int .i64 e.kd, .int .i64 e.id, .int .i64 e.x, .int .i64 e.k, .int .i64 e.n])) rfl rfl (by kernel_rfl) (by kernel_rfl) (by kernel_rfl) (by kernel_rfl) (fun _ _ _ h => h) (Or.inl ⟨by rfl, by intro W hW; have hh := atE (HAW.out.below hW.bel (Nat.le_refl _)) HE.out; obtain ⟨ad2, e2, hh⟩ := hh; have e2 := Option.some.inj e2; subst e2; obtain ⟨c0, c1, c2, c3, c4⟩ := hh; clear hW; go_simp⟩) hHeld ?_
                  simp only [put_laws]
                  refine anyZ_ready (rs := [6]) (by kernel_rfl) (by simp) ?_
                  refine AllZ.cons rfl (fun K hK => ?_) AllZ.nil
                  go_simp
                  refine (step_rv e (e.kd == 2) rfl _).mono ?_
                  rintro e w3 ⟨rfl, hb⟩
                  try go_simp
                  have hPrev := hHeld
                  have hHeld := hHeld.below hb
                  clear hPrev
                  refine hK.out _ _ hHeld (fun hHeld => ?_)
                  clear hK K
                  refine anyZ_ready (rs := [7]) (by kernel_rfl) (by simp) ?_
                  refine AllZ.cons rfl (fun K hK => ?_) AllZ.nil
                  go_simp
                  have hN : Rp.Blk ((w3.alloc (.cells #[.int .i64 e.x, .int .i64 e.k, .int .i64 e.n, .bool (e.kd == 2)] 89))) (w3.heap.size) #[.int .i64 e.x, .int .i64 e.k, .int .i64 e.n, .bool (e.kd == 2)] 89 := Rp.Blk.new (w3) #[.int .i64 e.x, .int .i64 e.k, .int .i64 e.n, .bool (e.kd == 2)] 89
                  have hPrev := hHeld
                  have hHeld := hHeld.below (show Below _ _ ((w3.alloc (.cells #[.int .i64 e.x, .int .i64 e.k, .int .i64 e.n, .bool (e.kd == 2)] 89))) from Rn.below_new (w3) (.cells #[.int .i64 e.x, .int .i64 e.k, .int .i64 e.n, .bool (e.kd == 2)] 89))
                  generalize (w3.alloc (.cells #[.int .i64 e.x, .int .i64 e.k, .int .i64 e.n, .bool (e.kd == 2)] 89)) = w4 at *
                  clear hPrev
                  refine hK.out _ _ hHeld (fun hHeld => ?_)
                  clear hK K
                  refine anyZ_ready (rs := [8]) (by kernel_rfl) (by simp) ?_
                  refine AllZ.last rfl rfl (fun K hK => ?_)
                  refine Rp.step_append_rowG encS vtS rfl (.tmp 65) (.tmp 71) rfl (v := .slice xc.A xc.e.rd.length xc.c) rfl hHeld.rd _ _ [⟨e.x, e.k, e.n, e.kd == 2⟩] rfl rfl (at_blk (s := ⟨e.x, e.k, e.n, e.kd == 2⟩) hN) (by simp) (by have := HLEN.out; simp; omega) hHeld.lt.2.2 ?_
                  intro v' w5 ho5 hg5 hl5
                  have hS5 := hHeld.addR ho5 hg5 hl5
                  clear hHeld ho5 hg5 hl5 hN
                  obtain ⟨A5, c5, rfl, hS5, hc5, hf5⟩ := hS5
                  rw [List.length_append, List.length_singleton] at hS5
                  have HNE5 := Lib.hid hS5
                  clear hS5
                  refine hK.out _ _ ?_
                  clear hK K
                  refine anyZ_ready (rs := [9]) (by kernel_rfl) (by simp) ?_
                  refine AllZ.last rfl rfl (fun K hK => ?_)
                  go_simp
                  refine hK.out _ _ ?_
                  clear hK K
                  refine anyZ_ready (rs := [10]) (by kernel_rfl) (by simp) ?_
                  refine AllZ.last rfl rfl (fun K hK => ?_)
                  go_simp
                  refine hK.out _ _ ?_
                  clear hK K hc5 hf5
                  refine anyZ_done (by kernel_rfl) ?_ _
                  refine NoPanic.normal ?_
                  generalize World.setCell _ _ _ = w2 at HNE5 ⊢
                  obtain ⟨x1, hx1⟩ : ∃ x1 : Xc, x1 = ⟨⟨xc.e.id, xc.e.com, xc.e.ovr, xc.e.rd ++ [⟨e.x, e.k, e.n, e.kd == 2⟩], xc.e.wt⟩, A5, c5, xc.B, xc.d⟩ := ⟨_, rfl⟩
                  rw [← hx1] at HNE5
                  have HX1 := Lib.hid (show x1.e = ⟨xc.e.id, xc.e.com, xc.e.ovr, xc.e.rd ++ [⟨e.x, e.k, e.n, e.kd == 2⟩], xc.e.wt⟩ from by rw [hx1])
                  have HRX := Lib.hid (show rdK L cr (x + 1) = xc.e.rd ++ [⟨e.x, e.k, e.n, e.kd == 2⟩] from by rw [HRK.out, HXE.out]; rfl)
                  have HN1 := Lib.hid HNE5.out
                  clear hx1 HNE HE HNB HLEN HNE5 hn0
                  by_cases hwp : 0 ≤ wv
                  · obtain ⟨n, hcm, hwm, rfl⟩ := wr_pos HWT.out hwp
                    obtain ⟨e, he, hek, hex⟩ := HRW.out.wrE HCR.out hwm
                    have HWK := Lib.hid (wt_some hcm hwm he hex)
                    have HE := Lib.hid he
                    have HNB := Lib.hid (show n < L.length ∧ (n : Int) < (L.length : Int) from ⟨(List.getElem?_eq_some_iff.1 he).1, by have := (List.getElem?_eq_some_iff.1 he).1; omega⟩)
                    have HLEN := Lib.hid (show x1.e.wt.length ≤ 64 from by rw [HX1.out, HXE.out]; exact Nat.le_trans (wtK_len _ _ _) hx)
                    have hn0 : (n : Int) ≥ 0 := hwp
                    clear he hek hex hwm hcm hwp
                    go_wp2
                    refine wp_region_noPanic ?_
                    refine region_z 11 (fun W => NE w0 L q r0 x1 W) 8 1000 rfl (by kernel_rfl) (by exact HN1.out.drew) (fun hHeld => ?_)
                    refine take_d [1, 8, 9, 10] 0 76 (.pointer (some ⟨w0.heap.size, 4, none⟩)) rfl rfl (by kernel_rfl) (by kernel_rfl) (by kernel_rfl) (by kernel_rfl) (fun _ _ _ h => h) (Or.inl ⟨by rfl, by intro W hW; clear hW; go_simp⟩) hHeld ?_
                    simp only [put_laws]
                    refine take_d [8, 9, 10] 1 77 (.slice x1.B x1.e.wt.length x1.d) rfl rfl (by kernel_rfl) (by kernel_rfl) (by kernel_rfl) (by kernel_rfl) (fun _ _ _ h => h) (Or.inl ⟨by rfl, by intro W hW; have c := hW.box.c4; clear hW; go_simp⟩) hHeld ?_
                    simp only [put_laws]
                    refine take_d [4, 5, 6, 7, 8, 9, 10] 2 78 (.slice (some ad) L.length c) rfl rfl (by kernel_rfl) (by kernel_rfl) (by kernel_rfl) (by kernel_rfl) (fun _ _ _ h => h) (Or.inl ⟨by rfl, by intro W hW; clear hW; go_simp⟩) hHeld ?_
                    simp only [put_laws]
                    refine take_d [4, 5, 6, 7, 8, 9, 10] 3 79 (.int .i64 (n : Nat)) rfl rfl (by kernel_rfl) (by kernel_rfl) (by kernel_rfl) (by kernel_rfl) (fun _ _ _ h => h) (Or.inl ⟨by rfl, by intro W hW; clear hW; go_simp⟩) hHeld ?_
                    simp only [put_laws]
                    refine take_d [5, 6, 7, 8, 9, 10] 4 80 (.pointer (some (ad.add (n * 5)))) rfl rfl (by kernel_rfl) (by kernel_rfl) (by kernel_rfl) (by kernel_rfl) (fun _ _ _ h => h) (Or.inl ⟨by rfl, by intro W hW; have h1 := HNB.out.1; have h2 := HNB.out.2; clear hW; go_simp⟩) hHeld ?_
                    simp only [put_laws]
                    refine take_d [6, 7, 8, 9, 10] 5 81 (.agg (#[.int .i64 e.kd, .int .i64 e.id, .int .i64 e.x, .int .i64 e.k, .int .i64 e.n])) rfl rfl (by kernel_rfl) (by kernel_rfl) (by kernel_rfl) (by kernel_rfl) (fun _ _ _ h => h) (Or.inl ⟨by rfl, by intro W hW; have hh := atE (HAW.out.below hW.bel (Nat.le_refl _)) HE.out; obtain ⟨ad2, e2, hh⟩ := hh; have e2 := Option.some.inj e2; subst e2; obtain ⟨c0, c1, c2, c3, c4⟩ := hh; clear hW; go_simp⟩) hHeld ?_
                    simp only [put_laws]
                    refine anyZ_ready (rs := [6]) (by kernel_rfl) (by simp) ?_
                    refine AllZ.cons rfl (fun K hK => ?_) AllZ.nil
                    go_simp
                    refine (step_rv e (e.kd == 2) rfl _).mono ?_
                    rintro e w3 ⟨rfl, hb⟩
                    try go_simp
                    have hPrev := hHeld
                    have hHeld := hHeld.below hb
                    clear hPrev
                    refine hK.out _ _ hHeld (fun hHeld => ?_)
                    clear hK K
                    refine anyZ_ready (rs := [7]) (by kernel_rfl) (by simp) ?_
                    refine AllZ.cons rfl (fun K hK => ?_) AllZ.nil
                    go_simp
                    have hN : Rp.Blk ((w3.alloc (.cells #[.int .i64 e.x, .int .i64 e.k, .int .i64 e.n, .bool (e.kd == 2)] 89))) (w3.heap.size) #[.int .i64 e.x, .int .i64 e.k, .int .i64 e.n, .bool (e.kd == 2)] 89 := Rp.Blk.new (w3) #[.int .i64 e.x, .int .i64 e.k, .int .i64 e.n, .bool (e.kd == 2)] 89
                    have hPrev := hHeld
                    have hHeld := hHeld.below (show Below _ _ ((w3.alloc (.cells #[.int .i64 e.x, .int .i64 e.k, .int .i64 e.n, .bool (e.kd == 2)] 89))) from Rn.below_new (w3) (.cells #[.int .i64 e.x, .int .i64 e.k, .int .i64 e.n, .bool (e.kd == 2)] 89))
                    generalize (w3.alloc (.cells #[.int .i64 e.x, .int .i64 e.k, .int .i64 e.n, .bool (e.kd == 2)] 89)) = w4 at *
                    clear hPrev
                    refine hK.out _ _ hHeld (fun hHeld => ?_)
                    clear hK K
                    refine anyZ_ready (rs := [8]) (by kernel_rfl) (by simp) ?_
                    refine AllZ.last rfl rfl (fun K hK => ?_)
                    refine Rp.step_append_rowG encS vtS rfl (.tmp 77) (.tmp 83) rfl (v := .slice x1.B x1.e.wt.length x1.d) rfl hHeld.wt _ _ [⟨e.x, e.k, e.n, e.kd == 2⟩] rfl rfl (at_blk (s := ⟨e.x, e.k, e.n, e.kd == 2⟩) hN) (by simp) (by have := HLEN.out; simp; omega) hHeld.lt.2.2 ?_
                    intro v' w5 ho5 hg5 hl5
                    have hS5 := hHeld.addW ho5 hg5 hl5
                    clear hHeld ho5 hg5 hl5 hN
                    obtain ⟨A5, c5, rfl, hS5, hc5, hf5⟩ := hS5
                    rw [List.length_append, List.length_singleton] at hS5
                    have HNE5 := Lib.hid hS5
                    clear hS5
                    refine hK.out _ _ ?_
                    clear hK K
                    refine anyZ_ready (rs := [9]) (by kernel_rfl) (by simp) ?_
                    refine AllZ.last rfl rfl (fun K hK => ?_)
                    go_simp
                    refine hK.out _ _ ?_
                    clear hK K
                    refine anyZ_ready (rs := [10]) (by kernel_rfl) (by simp) ?_
                    refine AllZ.last rfl rfl (fun K hK => ?_)
                    go_simp
                    refine hK.out _ _ ?_
                    clear hK K hc5 hf5
                    refine anyZ_done (by kernel_rfl) ?_ _
                    refine NoPanic.normal ?_
                    go_wp2
                    go_roundw
                    case rel => exact ⟨x + 1, ⟨⟨x1.e.id, x1.e.com, x1.e.ovr, x1.e.rd, x1.e.wt ++ [⟨e.x, e.k, e.n, e.kd == 2⟩]⟩, x1.A, x1.c, A5, c5⟩, by have := HX64.out; omega, by go_num, (show (⟨x1.e.id, x1.e.com, x1.e.ovr, x1.e.rd, x1.e.wt ++ [⟨e.x, e.k, e.n, e.kd == 2⟩]⟩ : Ent) = _ from by
                      have h := ent_next HXE.out HRX.out (show wtK L cr (x + 1) = xc.e.wt ++ [⟨e.x, e.k, e.n, e.kd == 2⟩] from by rw [HWK.out, HXE.out]; rfl)
                      rw [HX1.out]; exact h), HNE5.out⟩
                    case measure => simp [intOf]; have := HX64.out; omega
                  · have hwn : ¬ wv ≥ 0 := hwp
                    have HWK := Lib.hid (wt_none (L := L) (k := x) (by rw [← HWT.out]; omega))
                    clear hwp
                    go_wp2
                    go_roundw
                    case rel => exact ⟨x + 1, x1, by have := HX64.out; omega, by go_num, by
                      have h := ent_next HXE.out HRX.out (show wtK L cr (x + 1) = xc.e.wt from by rw [HWK.out, HXE.out]; rfl)
                      rw [HX1.out]; exact h, HN1.out⟩
                    case measure => simp [intOf]; have := HX64.out; omega
            · have hlx' : ¬ (x : Int) < 64 := by omega
              obtain rfl : x = 64 := by omega
              have HFE := Lib.hid (show xc.e = entF L l k from by rw [HXE.out, entK_all]; unfold entF; rw [HCR.out])
              have hokc := HRW.out.okc HCR.out
              have s1 := own_sl HNE.out.rd (by rw [HXE.out]; exact rdK_ok hokc HOK.out 64)
              have s2 := own_sl HNE.out.wt (by rw [HXE.out]; exact wtK_ok hokc HOK.out 64)
              have HRX := Lib.hid (show RdX _ xc from ⟨s1.1, s2.1⟩)
              have HOF := Lib.hid (Rp.off_fresh HO.out.row (Nat.le_of_lt (Nat.lt_trans HNE.out.lt.1 HNE.out.lt.2.1)) s1.2 s2.2)
              have HOW := Lib.hid (HO.out.below HNE.out.bel)
              have c0 := HNE.out.box.c0
              have c1 := HNE.out.box.c1
              have c2 := HNE.out.box.c2
              have c3 := HNE.out.box.c3
              have c4 := HNE.out.box.c4
              have HAT := Lib.hid (fun W => Rn.At.new (E := encX) W xc (Rp.entA xc) rfl 77 (g := W.heap.size) rfl)
              have HYL := Lib.hid (show Y.length ≤ 10000 from by rw [HO.out.len]; simp; omega)
              clear hokc s1 s2
              unfold Rp.entA at HAT
              go_wp2_with (at_builtin; refine Rp.append_rowG encX Rp.vtY rfl _ _ rfl rfl (HOW.out.below (Rn.below_new _ _)).row _ _ [xc] rfl rfl (HAT.out _) (by simp) (by have := HYL.out; simp; omega) (by have := HS.out.bel.size; have := HNE.out.bel.size; simp; omega) ?_)
              intro v' w9 ho9 hg9 hl9
              have HO9 := Lib.hid ((HOW.out.below (Rn.below_new _ _)).snoc (x := xc) (HRX.out.below (Rn.below_new _ _) (Nat.le_refl _)) HOF.out ho9 hg9 (by rw [Rn.size_new]; exact hl9))
              have HB9 := Lib.hid (show Below w1.heap.size w1 w9 from (HS.out.bel.trans ((HNE.out.bel.alloc HNE.out.bel.size _).mono HS.out.bel.size)).trans (Rp.grown_below (HOW.out.below (Rn.below_new _ _)).row hg9 (by have := HS.out.bel.size; have := HNE.out.bel.size; simp; omega)))
              clear ho9 hg9 hl9 c0 c1 c2 c3 c4
              go_wp2
              go_roundw
              case rel => exact ⟨k + 1, Y ++ [xc], by have := HKN.out; omega, by go_num, by rw [List.range_succ, List.map_append, List.map_singleton, ← HFE.out]; exact HO9.out, ⟨HB9.out⟩⟩
              case measure => simp [intOf]; have := HKN.out; omega
      · have hlt' : ¬ (k : Int) < (l.length : Int) := by omega
        obtain rfl : k = l.length := by omega
        have hsl := HO.out.slice
        obtain ⟨B2, d2, rfl, e1, e2, hit⟩ := hsl
        have HIT := Lib.hid hit
        have HE12 := Lib.hid (And.intro e1 e2)
        clear e1 e2 hit
        go_wp2
        go_ret
        exact ⟨B2, d2, Y, by rw [List.length_map, List.length_range]; rfl, HE12.out.1, HE12.out.2, HIT.out, HB.out.trans (HS.out.bel.mono HB.out.size)⟩
end Go.Proofs.Ytcfdndppkpjleaa.Hi
