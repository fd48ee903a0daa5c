/-
  Contracts of Does and All.
-/
import Derived.Test.YtfdfiiocccafkaaGreatDoorRepWalk
namespace Go.Proofs.YtfdfiiocccafkaaGreatDoor.Rp
open Go.RowKit Tx
theorem RdX.stay {w : World} {x : Xc} {B : Nat} (h : RdX w x) (hB : w.heap.size ≤ B) : Stay B w x := fun W hW => ⟨⟨h.rd.at_.below hW hB, h.rd.le, h.rd.max⟩, ⟨h.wt.at_.below hW hB, h.wt.le, h.wt.max⟩⟩
def DoesPost (S : List Vp) (e : Ent) (w : World) (x : Ending) (w' : World) : Prop := ∃ v, x = .returned (.tuple #[v, .bool (fits S e)]) ∧ Rn.Own encV w' w.heap.size 71 v (doS S e) ∧ Below w.heap.size w w'
set_option maxHeartbeats 4000000 in
set_option maxRecDepth 100000 in
theorem does_any (A : Option Addr) (c : Nat) (S : List Vp) (x : Xc) (w : World) (hA : Rn.At encV w A S) (hx : RdX w x) (h1 : x.e.rd.length ≤ 300) (h2 : x.e.wt.length ≤ 300) (hS : S.length ≤ 300) :
    Calls Tryz.prog 25 #[.slice A S.length c, .agg #[.int .i64 x.e.id, .bool x.e.com, .bool x.e.ovr, .slice x.A x.e.rd.length x.c, .slice x.B x.e.wt.length x.d]] w (DoesPost S x.e w) := by
  have HA := Lib.hid hA
  have HX := Lib.hid hx
  have HX0 := Lib.hid (EBox.new w x)
  have HS0 := Lib.hid (below_new w (.cells (entA x) 79))
  have HR0 := Lib.hid (hx.below HS0.out (Nat.le_refl _))
  unfold entA at HX0 HS0 HR0
  clear hA hx
  unfold DoesPost
  generalize hf : fits S x.e = f
  generalize hd : doS S x.e = S'
  have HF := Lib.hid hf
  have HD := Lib.hid hd
  clear hf hd
  go_enter Tryz.func25, Tryz.ntmps25
  go_wp2_with fail
  refine (vclone_any A c S _ (HA.out.below HS0.out (Nat.le_refl _)) hS).mono ?_
  rintro e w1 ⟨v, rfl, ho, hb⟩
  have HO1 := Lib.hid ho
  have HB1 := Lib.hid (HS0.out.trans (hb.mono HS0.out.size))
  have HX1 := Lib.hid (HX0.out.below hb (by simp))
  have HR1 := Lib.hid (show Stay w1.heap.size w1 x from (HX.out.below HB1.out (Nat.le_refl _)).stay (Nat.le_refl _))
  have HR1 := Lib.hid (show Stay (w.heap.size + 1) w1 x from (HR0.out.stay (by simp)).below (by have := hb; simp at this; exact this))
  have HZ := Lib.hid (show w.heap.size + 1 ≤ w1.heap.size from by have := hb.size; simpa using this)
  have hsz : (w.alloc (.cells #[.int .i64 x.e.id, .bool x.e.com, .bool x.e.ovr, .slice x.A x.e.rd.length x.c, .slice x.B x.e.wt.length x.d] 79)).heap.size = w.heap.size + 1 := by simp
  rw [hsz] at HO1
  clear ho hb hsz
  have b0 := HX1.out.c0
  have b1 := HX1.out.c1
  have b2 := HX1.out.c2
  have b3 := HX1.out.c3
  have b4 := HX1.out.c4
  go_wp2_with fail
  refine (do_any (w.heap.size + 1) v S x _ HO1.out HR1.out HZ.out h1 h2 hS).mono ?_
  rintro e w2 ⟨rfl, ho, hb⟩
  rw [HF.out] at *
  rw [HD.out] at ho
  have HO2 := Lib.hid (ho.mono (Nat.le_succ _))
  have HB2 := Lib.hid (HB1.out.trans (hb.mono (Nat.le_succ _)))
  clear ho hb b0 b1 b2 b3 b4
  go_wp2
  go_ret2
  exact ⟨v, rfl, HO2.out, HB2.out⟩
def AllPost (S : List Vp) (l : List Ent) (w : World) (x : Ending) (w' : World) : Prop := ∃ v, x = .returned (.tuple #[v, .int .i64 (allN S l)]) ∧ Rn.Own encV w' w.heap.size 71 v (allS S l) ∧ Below w.heap.size w w'
def AllRel (S : List Vp) (l : List Ent) (v : Value) (w : World) (i : Value) (wr : World) : Prop := ∃ (k : Nat) (S' : List Vp), k ≤ l.length ∧ i = .int .i64 k ∧ Stand S l k S' ∧ Rn.Own encV wr w.heap.size 71 v S' ∧ Below w.heap.size w wr
set_option maxHeartbeats 4000000 in
set_option maxRecDepth 100000 in
theorem all_any (A B : Option Addr) (c d : Nat) (S : List Vp) (X : List Xc) (l : List Ent) (w : World) (hA : Rn.At encV w A S) (hX : ItAt w B X l) (hf : few l) (hl : l.length ≤ 10000) (hS : S.length ≤ 300) :
    Calls Tryz.prog 8 #[.slice A S.length c, .slice B l.length d] w (AllPost S l w) := by
  have HA := Lib.hid hA
  have HX := Lib.hid hX
  have HF := Lib.hid hf
  clear hA hX hf
  have hN : (l.length : Int) ≤ 9223372036854775807 := by omega
  unfold AllPost
  generalize hal : allN S l = n
  generalize has' : allS S l = S2
  have HAN := Lib.hid hal
  have HAS := Lib.hid has'
  clear hal has'
  go_enter Tryz.func8, Tryz.ntmps8
  go_wp2_with fail
  refine (vclone_any A c S _ HA.out hS).mono ?_
  rintro e w1 ⟨v, rfl, ho, hb⟩
  have HO1 := Lib.hid ho
  have HB1 := Lib.hid hb
  clear ho hb
  go_wp2
  go_loopw [13] (AllRel S l v w) (fun i _ => l.length - (intOf i).toNat)
  case atStart => exact ⟨0, S, Nat.zero_le _, rfl, Stand.zero _ _, HO1.out, HB1.out⟩
  case round =>
    obtain ⟨k, S', hk, rfl, hst, ho, hb⟩ := hrel
    have HST := Lib.hid hst
    have HO := Lib.hid ho
    have HB := Lib.hid hb
    clear hst ho hb
    by_cases hlt : k < l.length
    · obtain ⟨ad, x, rfl, hXk, hlk, hrd, h5⟩ := (HX.out.below HB.out (Nat.le_refl _)).at_ hlt
      obtain ⟨c0, c1, c2, c3, c4⟩ := h5
      have HLK := Lib.hid hlk
      have HX0 := Lib.hid (EBox.new wr x)
      have HS0 := Lib.hid ((HB.out).alloc (HB.out.size) (.cells (entA x) 79))
      have HSK := Lib.hid (show Stay w.heap.size w x from (HX.out.rd x (List.mem_of_getElem? hXk)).stay (Nat.le_refl _))
      have HFW := Lib.hid (HF.out x.e (List.mem_of_getElem? hlk))
      have HL := Lib.hid (show S'.length ≤ 300 by rw [HST.out.len]; exact hS)
      have HO0 := Lib.hid (HO.out.alloc (.cells (entA x) 79))
      unfold entA at HX0 HS0 HO0
      clear hXk hlk hrd
      have hlt' : (k : Int) < (l.length : Int) := by omega
      have h0 : (0 : Int) ≤ (k : Int) := by omega
      have HZ := Lib.hid HB.out.size
      cases hf : fits S' x.e with
      | true =>
        have HFT := Lib.hid hf
        clear hf
        go_wp2_with fail
        refine (do_any w.heap.size v S' x _ HO0.out (HSK.out.below HS0.out) HS0.out.size HFW.out.1 HFW.out.2 HL.out).mono ?_
        unfold DoPost
        rw [HFT.out]
        rintro e w2 ⟨rfl, ho, hb⟩
        have hd : doS S' x.e = next S' x.e := by unfold doS; rw [HFT.out]; rfl
        rw [hd] at ho
        have HO2 := Lib.hid ho
        have HB2 := Lib.hid (HS0.out.trans hb)
        clear ho hb c0 c1 c2 c3 c4 hd
        go_wp2
        go_roundw
        case rel => exact ⟨k + 1, _, by omega, by go_num, HST.out.step HLK.out HFT.out, HO2.out, HB2.out⟩
        case measure => simp [intOf]; omega
      | false =>
        have HFT := Lib.hid hf
        clear hf
        go_wp2_with fail
        refine (do_any w.heap.size v S' x _ HO0.out (HSK.out.below HS0.out) HS0.out.size HFW.out.1 HFW.out.2 HL.out).mono ?_
        unfold DoPost
        rw [HFT.out]
        rintro e w2 ⟨rfl, ho, hb⟩
        have hd : doS S' x.e = S' := by unfold doS; rw [HFT.out]; rfl
        rw [hd] at ho
        have HO2 := Lib.hid ho
        have HB2 := Lib.hid (HS0.out.trans hb)
        clear ho hb c0 c1 c2 c3 c4 hd
        obtain ⟨e1, e2⟩ := HST.out.stop HLK.out HFT.out
        have e3 := HAS.out.symm.trans e1
        have e4 := HAN.out.symm.trans e2
        subst e3; subst e4
        go_wp2
        go_ret2
        exact ⟨v, rfl, HO2.out, HB2.out⟩
    · have hlt' : ¬ (k : Int) < (l.length : Int) := by omega
      obtain ⟨e1, e2⟩ := HST.out.end_ (by omega)
      have e3 := HAS.out.symm.trans e1
      have e4 := HAN.out.symm.trans e2
      subst e3; subst e4
      go_wp2
      go_ret2
      exact ⟨v, rfl, HO.out, HB.out⟩
end Go.Proofs.YtfdfiiocccafkaaGreatDoor.Rp
