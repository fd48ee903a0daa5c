/-
  Contracts of do, Does and All.
-/
import Derived.Test.YtfdfiiocccafkaaGreatDoorRepDo
import Derived.Test.YtfdfiiocccafkaaGreatDoorRepRows
namespace Go.Proofs.YtfdfiiocccafkaaGreatDoor.Rp
open Go.RowKit Tx
theorem put_snoc {S : List Vp} {W : List Sp} {k : Nat} {s : Sp} (h : W[k]? = some s) : put S (W.take (k + 1)) = (put S (W.take k)).set s.x.toNat (s.k, s.n) := by
  rw [Rn.step_take h]; unfold put; rw [List.foldl_append]; rfl
/-- the entry's slices stay, as long as what lies below a point does. -/
def Stay (base : Nat) (w : World) (x : Xc) : Prop := ∀ W, Below base w W → RdX W x
theorem Stay.below {base : Nat} {w w' : World} {x : Xc} (h : Stay base w x) (hb : Below base w w') : Stay base w' x := fun W hW => h W (hb.trans hW)
theorem own_get0 {w : World} {base g n cap : Nat} {e : TypeId} {L : List Vp} (h : Rn.Own encV w base e (.slice (some ⟨g, 0, none⟩) n cap) L) {j : Nat} {v : Vp} (hv : L[j]? = some v) : w.cell? ⟨g, j * 2, none⟩ = some (.int .i64 v.1) := h.get hv 0 (by decide)
theorem own_get1 {w : World} {base g n cap : Nat} {e : TypeId} {L : List Vp} (h : Rn.Own encV w base e (.slice (some ⟨g, 0, none⟩) n cap) L) {j : Nat} {v : Vp} (hv : L[j]? = some v) : w.cell? ⟨g, j * 2 + 1, none⟩ = some (.int .i64 v.2) := h.get hv 1 (by decide)
theorem own_put {w : World} {base g n cap : Nat} {e : TypeId} {L : List Vp} (h : Rn.Own encV w base e (.slice (some ⟨g, 0, none⟩) n cap) L) {j : Nat} (hj : j < L.length) (k m : Int) :
    Rn.Own encV ((w.setCell ⟨g, j * 2, none⟩ (.int .i64 k)).setCell ⟨g, j * 2 + 1, none⟩ (.int .i64 m)) base e (.slice (some ⟨g, 0, none⟩) n cap) (L.set j (k, m)) := by
  have hv := List.getElem?_eq_getElem hj
  have h1 := h.put hv (v' := (k, L[j].2)) 0 (by decide) (.int .i64 k) rfl
  have h2 := h1.put (j := j) (List.getElem?_set_self hj) (v' := (k, m)) 1 (by decide) (.int .i64 m) rfl
  rw [List.set_set] at h2
  exact h2
theorem own_open {w : World} {base : Nat} {e : TypeId} {v : Value} {L : List Vp} (h : Rn.Own encV w base e v L) (hl : 0 < L.length) : ∃ g cap, v = .slice (some ⟨g, 0, none⟩) L.length cap := by
  rcases h.2 with ⟨_, h0⟩ | ⟨g, cap, cur, rfl, hb, hg, _⟩
  · omega
  · exact ⟨g, cap, rfl⟩
/-- the box of an entry. -/
structure EBox (w : World) (b : Nat) (x : Xc) : Prop where
  is : w.heap[b]? = some (.cells (entA x) 79 (0, 0))
theorem EBox.new (w : World) (x : Xc) : EBox (w.alloc (.cells (entA x) 79)) w.heap.size x := ⟨heap_alloc_new w _⟩
theorem EBox.lt {w : World} {b : Nat} {x : Xc} (h : EBox w b x) : b < w.heap.size := (Array.getElem?_eq_some_iff.1 h.is).1
theorem EBox.below {w w' : World} {b : Nat} {x : Xc} {B : Nat} (h : EBox w b x) (hb : Below B w w') (hB : b < B) : EBox w' b x := ⟨(hb.block b hB).trans h.is⟩
theorem EBox.c0 {w : World} {b : Nat} {x : Xc} (h : EBox w b x) : w.cell? ⟨b, 0, none⟩ = some (.int .i64 x.e.id) := cell_of_row w b 0 _ _ (0, 0) h.is
theorem EBox.c1 {w : World} {b : Nat} {x : Xc} (h : EBox w b x) : w.cell? ⟨b, 1, none⟩ = some (.bool x.e.com) := cell_of_row w b 1 _ _ (0, 0) h.is
theorem EBox.c2 {w : World} {b : Nat} {x : Xc} (h : EBox w b x) : w.cell? ⟨b, 2, none⟩ = some (.bool x.e.ovr) := cell_of_row w b 2 _ _ (0, 0) h.is
theorem EBox.c3 {w : World} {b : Nat} {x : Xc} (h : EBox w b x) : w.cell? ⟨b, 3, none⟩ = some (.slice x.A x.e.rd.length x.c) := cell_of_row w b 3 _ _ (0, 0) h.is
theorem EBox.c4 {w : World} {b : Nat} {x : Xc} (h : EBox w b x) : w.cell? ⟨b, 4, none⟩ = some (.slice x.B x.e.wt.length x.d) := cell_of_row w b 4 _ _ (0, 0) h.is
def DoPost (base : Nat) (v : Value) (S : List Vp) (e : Ent) (w : World) (x : Ending) (w' : World) : Prop := x = .returned (.bool (fits S e)) ∧ Rn.Own encV w' base 71 v (doS S e) ∧ Below base w w'
def DoRel (base : Nat) (v : Value) (S : List Vp) (W : List Sp) (w : World) (i : Value) (wr : World) : Prop := ∃ k : Nat, k ≤ W.length ∧ i = .int .i64 k ∧ Rn.Own encV wr base 71 v (put S (W.take k)) ∧ Below base w wr
theorem lacks_none {S : List Vp} {W : List Sp} (h : W.any (lacks S) = false) {k : Nat} {s : Sp} (hs : W[k]? = some s) : 0 ≤ s.x ∧ s.x < (S.length : Int) := by
  have := List.any_eq_false.1 h s (List.mem_of_getElem? hs)
  exact (has_iff S s.x).1 (by simpa [lacks] using this)
set_option maxHeartbeats 4000000 in
set_option maxRecDepth 100000 in
theorem do_any (base : Nat) (v : Value) (S : List Vp) (x : Xc) (w : World) (hv : Rn.Own encV w base 71 v S) (hx : Stay base w x) (hbase : base ≤ w.heap.size) (h1 : x.e.rd.length ≤ 300) (h2 : x.e.wt.length ≤ 300) (hS : S.length ≤ 300) :
    Calls Tryz.prog 34 #[v, .agg #[.int .i64 x.e.id, .bool x.e.com, .bool x.e.ovr, .slice x.A x.e.rd.length x.c, .slice x.B x.e.wt.length x.d]] w (DoPost base v S x.e w) := by
  obtain ⟨A, c, rfl, hc1, hc2, hA, hfr⟩ := hv.slice
  have HV := Lib.hid hv
  have HA := Lib.hid hA
  have HX := Lib.hid hx
  have HX0 := Lib.hid (EBox.new w x)
  have HB0 := Lib.hid (show Below base w (w.alloc (.cells (entA x) 79)) from (Below.refl _ _).alloc hbase _)
  have HS0 := Lib.hid (below_new w (.cells (entA x) 79))
  unfold entA at HX0 HB0 HS0
  clear hv hA hx hfr hc1 hc2
  have HBS := Lib.hid hbase
  clear hbase
  unfold DoPost
  cases hr : x.e.rd.any (denies S) with
  | true =>
    have hf : fits S x.e = false := by unfold fits; rw [hr]; rfl
    have hd : doS S x.e = S := by unfold doS; rw [hf]; rfl
    rw [hf, hd]
    have HR := Lib.hid hr
    clear hf hd hr
    go_enter Tryz.func34, Tryz.ntmps34
    go_wp2_with fail
    refine (contains_denies A x.A c x.c S x.e.rd _ (HA.out.below HS0.out (Nat.le_refl _)) (HX.out _ HB0.out).rd.at_ h1).mono ?_
    rw [HR.out]
    rintro e w1 ⟨rfl, hb⟩
    have HB1 := Lib.hid (HS0.out.trans (hb.mono HS0.out.size))
    clear hb
    go_wp2
    go_ret
    exact ⟨rfl, HV.out.below HB1.out (Nat.le_refl _), HB1.out.mono HBS.out⟩
  | false =>
    have HR := Lib.hid hr
    clear hr
    cases hw : x.e.wt.any (lacks S) with
    | true =>
      have hf : fits S x.e = false := by unfold fits; rw [HR.out, hw]; rfl
      have hd : doS S x.e = S := by unfold doS; rw [hf]; rfl
      rw [hf, hd]
      have HW := Lib.hid hw
      clear hf hd hw
      go_enter Tryz.func34, Tryz.ntmps34
      go_wp2_with fail
      refine (contains_denies A x.A c x.c S x.e.rd _ (HA.out.below HS0.out (Nat.le_refl _)) (HX.out _ HB0.out).rd.at_ h1).mono ?_
      rw [HR.out]
      rintro e w1 ⟨rfl, hb⟩
      have HB1 := Lib.hid (HS0.out.trans (hb.mono HS0.out.size))
      have HX1 := Lib.hid (HX0.out.below hb (by simp))
      clear hb
      have b4 := HX1.out.c4
      go_wp2_with fail
      refine (contains_lacks A x.B c x.d S x.e.wt _ (HA.out.below HB1.out (Nat.le_refl _)) (HX.out _ (HB1.out.mono HBS.out)).wt.at_ h2).mono ?_
      rw [HW.out]
      rintro e w2 ⟨rfl, hb⟩
      have HB2 := Lib.hid (HB1.out.trans (hb.mono HB1.out.size))
      clear hb b4
      go_wp2
      go_ret
      exact ⟨rfl, HV.out.below HB2.out (Nat.le_refl _), HB2.out.mono HBS.out⟩
    | false =>
      have hf : fits S x.e = true := by unfold fits; rw [HR.out, hw]; rfl
      have hd : doS S x.e = next S x.e := by unfold doS; rw [hf]; rfl
      obtain ⟨S', hS'⟩ : ∃ S', S' = (if x.e.com then put S x.e.wt else S) := ⟨_, rfl⟩
      have hn : next S x.e = S' := hS'.symm
      rw [hf, hd, hn]
      have HW := Lib.hid hw
      have HN := Lib.hid hS'
      clear hf hd hw hS' hn
      go_enter Tryz.func34, Tryz.ntmps34
      go_wp2_with fail
      refine (contains_denies A x.A c x.c S x.e.rd _ (HA.out.below HS0.out (Nat.le_refl _)) (HX.out _ HB0.out).rd.at_ h1).mono ?_
      rw [HR.out]
      rintro e w1 ⟨rfl, hb⟩
      have HB1 := Lib.hid (HS0.out.trans (hb.mono HS0.out.size))
      have HX1 := Lib.hid (HX0.out.below hb (by simp))
      have HZ1 := Lib.hid (show w.heap.size < w1.heap.size from by have := hb.size; simp at this; omega)
      clear hb
      have b4 := HX1.out.c4
      go_wp2_with fail
      refine (contains_lacks A x.B c x.d S x.e.wt _ (HA.out.below HB1.out (Nat.le_refl _)) (HX.out _ (HB1.out.mono HBS.out)).wt.at_ h2).mono ?_
      rw [HW.out]
      rintro e w2 ⟨rfl, hb⟩
      have HB2 := Lib.hid (HB1.out.trans (hb.mono HB1.out.size))
      have HX2 := Lib.hid (HX1.out.below hb HZ1.out)
      have HV2 := Lib.hid (HV.out.below HB2.out (Nat.le_refl _))
      clear hb b4
      have b1 := HX2.out.c1
      have b4 := HX2.out.c4
      cases hc : x.e.com with
      | false =>
        rw [hc] at b1
        have HC := Lib.hid hc
        clear hc
        go_wp2
        go_ret
        have hN := HN.out
        rw [HC.out] at hN
        exact ⟨rfl, by rw [hN]; exact HV2.out, HB2.out.mono HBS.out⟩
      | true =>
        rw [hc] at b1
        have HC := Lib.hid hc
        clear hc
        go_wp2
        go_loopw [25] (DoRel base (.slice A S.length c) S x.e.wt w) (fun i _ => x.e.wt.length - (intOf i).toNat)
        case atStart => exact ⟨0, Nat.zero_le _, rfl, HV2.out, HB2.out.mono HBS.out⟩
        case round =>
          obtain ⟨k, hk, rfl, ho, hb⟩ := hrel
          have HO := Lib.hid ho
          have HB := Lib.hid hb
          clear ho hb b1 b4
          by_cases hlt : k < x.e.wt.length
          · obtain ⟨ad, s, hB, hs, hok, h5⟩ := (HX.out _ HB.out).wt.at_.at_ hlt
            obtain ⟨c0, c1, c2, c3⟩ := h5
            obtain ⟨r0, r1⟩ := lacks_none HW.out hs
            obtain ⟨j, hj⟩ := Int.eq_ofNat_of_zero_le r0
            have hjl : j < S.length := by omega
            obtain ⟨g, cap, hg⟩ := own_open HV.out (by omega)
            have hAg := (Value.slice.inj hg).1
            have hcg := (Value.slice.inj hg).2.2
            subst hAg; subst hcg
            rw [hj] at c0
            have HSN := Lib.hid (put_snoc (S := S) hs)
            rw [hj, Int.toNat_natCast] at HSN
            have hl : (put S (x.e.wt.take k)).length = S.length := put_len _ _
            have hjp : j < (put S (x.e.wt.take k)).length := by omega
            have HO1 := Lib.hid (own_put (HO.out.alloc (.cells #[.int .i64 (j : Nat), .int .i64 s.k, .int .i64 s.n, .bool s.wr] 76)) hjp s.k s.n)
            obtain ⟨vo, hve⟩ : ∃ vo, (put S (x.e.wt.take k))[j]? = some vo := ⟨_, List.getElem?_eq_getElem hjp⟩
            have d0 := own_get0 (HO.out.alloc (.cells #[.int .i64 (j : Nat), .int .i64 s.k, .int .i64 s.n, .bool s.wr] 76)) hve
            have d1 := own_get1 (HO.out.alloc (.cells #[.int .i64 (j : Nat), .int .i64 s.k, .int .i64 s.n, .bool s.wr] 76)) hve
            have fz := (HO.out.alloc (.cells #[.int .i64 (j : Nat), .int .i64 s.k, .int .i64 s.n, .bool s.wr] 76)).free
            have hgb := HO.out.lt
            have HB1 := Lib.hid (((HB.out.alloc (Nat.le_trans HBS.out HB.out.size) (.cells #[.int .i64 (j : Nat), .int .i64 s.k, .int .i64 s.n, .bool s.wr] 76)).setCell (p := ⟨g, j * 2, none⟩) hgb.1 (.int .i64 s.k)).setCell (p := ⟨g, j * 2 + 1, none⟩) hgb.1 (.int .i64 s.n))
            have hlt' : (k : Int) < (x.e.wt.length : Int) := by omega
            have hji : (j : Int) < (S.length : Int) := by omega
            clear hs hok hj r0 r1 hl hjp hve hg hgb
            go_wp2
            go_round
            case rel => exact ⟨k + 1, by omega, by go_num, by rw [HSN.out]; exact HO1.out, HB1.out⟩
            case measure => simp [intOf]; omega
          · have hlt' : ¬ (k : Int) < (x.e.wt.length : Int) := by omega
            go_wp2
            go_ret
            have := HO.out
            rw [List.take_of_length_le (by omega)] at this
            have hN := HN.out
            rw [HC.out] at hN
            exact ⟨rfl, by rw [hN]; exact this, HB.out⟩
end Go.Proofs.YtfdfiiocccafkaaGreatDoor.Rp
