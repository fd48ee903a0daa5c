/-
  Contracts of Committed, of the document's, and of the comparison of entries.
-/
import Derived.Test.YtfdfiiocccafkaaGreatDoorRepEnts
import Derived.Deep.QuietTactic
import Derived.BigQuiet
namespace Go.Proofs.YtfdfiiocccafkaaGreatDoor.Rp
open Go.RowKit Tx
theorem slat_set {w : World} {A : Option Addr} {c : Nat} {L : List Sp} {b : Nat} (h : SlAt w A c L) (hf : ∀ ad, A = some ad → ad.block ≠ b) (i : Nat) (v : Value) : SlAt (w.setCell ⟨b, i, none⟩ v) A c L :=
  ⟨⟨fun hl => by
    obtain ⟨ad, e, hc⟩ := h.at_.cell hl
    exact ⟨ad, e, fun j u hu => (World.cell?_of_block (a := ad.add j) (Below.heap_setCell _ _ _ _ (by rw [add_block]; exact hf ad e))).trans (hc j u hu)⟩, h.at_.ok⟩, h.le, h.max⟩
theorem box_set3 {w : World} {b : Nat} {t : TypeId} {x : Xc} (h : BoxX w b t x) (A : Option Addr) (c : Nat) : BoxX (w.setCell ⟨b, 3, none⟩ (.slice A x.e.rd.length c)) b t ⟨x.e, A, c, x.B, x.d⟩ := by
  have h2 : Blk w b (entA x) t := h.is
  have := h2.set 3 (.slice A x.e.rd.length c)
  exact ⟨this⟩
theorem box_set4 {w : World} {b : Nat} {t : TypeId} {x : Xc} (h : BoxX w b t x) (B : Option Addr) (d : Nat) : BoxX (w.setCell ⟨b, 4, none⟩ (.slice B x.e.wt.length d)) b t ⟨x.e, x.A, x.c, B, d⟩ := by
  have h2 : Blk w b (entA x) t := h.is
  have := h2.set 4 (.slice B x.e.wt.length d)
  exact ⟨this⟩
def ItRelF (t : TypeId) (L : List Ent) (w : World) (v i : Value) (wr : World) : Prop := ∃ (k : Nat) (X : List Xc), k ≤ L.length ∧ i = .int .i64 k ∧ OwnI t wr w.heap.size v X ((L.take k).filter (·.com)) ∧ Below w.heap.size w wr
theorem filt_yes {L : List Ent} {k : Nat} {e : Ent} (h : L[k]? = some e) (hc : e.com = true) : (L.take (k + 1)).filter (·.com) = (L.take k).filter (·.com) ++ [e] := by
  rw [Rn.step_take h, List.filter_append]; simp [hc]
theorem filt_no {L : List Ent} {k : Nat} {e : Ent} (h : L[k]? = some e) (hc : e.com = false) : (L.take (k + 1)).filter (·.com) = (L.take k).filter (·.com) := by
  rw [Rn.step_take h, List.filter_append]; simp [hc]
set_option maxHeartbeats 4000000 in
set_option maxRecDepth 100000 in
theorem committed_any (A : Option Addr) (c : Nat) (X0 : List Xc) (L : List Ent) (w : World) (h : ItAt w A X0 L) (hf : few L) (hl : L.length ≤ 10000) :
    Calls Tryz.prog 15 #[.slice A L.length c] w (ItPost 79 (L.filter (·.com)) w) := by
  have H := Lib.hid h
  have HFW := Lib.hid hf
  clear h hf
  have hN : (L.length : Int) ≤ 9223372036854775807 := by omega
  go_enter Tryz.func15, Tryz.ntmps15
  go_wp2
  go_loopw [3, 8] (ItRelF 79 L w) (fun _ i _ => L.length - (intOf i).toNat)
  case atStart => exact ⟨0, [], Nat.zero_le _, rfl, OwnI.nil _ _ _, Below.refl _ _⟩
  case round =>
    obtain ⟨k, X, hk, rfl, ho, hb⟩ := hrel
    have HO := Lib.hid ho
    have HB := Lib.hid hb
    clear ho hb
    by_cases hlt : k < L.length
    · obtain ⟨ad, x, rfl, hXk, hlk, hrd, h5⟩ := (H.out.below HB.out (Nat.le_refl _)).at_ hlt
      obtain ⟨c0, c1, c2, c3, c4⟩ := h5
      have HLK := Lib.hid hlk
      have HX := Lib.hid (H.out.rd x (List.mem_of_getElem? hXk))
      have HF := Lib.hid (HFW.out x.e (List.mem_of_getElem? hlk))
      have HXL := Lib.hid (show X.length ≤ 10000 by have := List.length_filter_le (fun e : Ent => e.com) (L.take k); rw [HO.out.len]; simp at this ⊢; omega)
      have HBX := Lib.hid (BoxX.new wr 79 x)
      have HW0 := Lib.hid (Rn.below_new wr (.cells (entA x) 79))
      unfold entA at HBX HW0
      clear hXk hlk hrd
      have hlt' : (k : Int) < (L.length : Int) := by omega
      have h0 : (0 : Int) ≤ (k : Int) := by omega
      cases hc : x.e.com with
      | true =>
        have HC := Lib.hid hc
        rw [hc] at c1 HBX HW0
        clear hc
        go_wp2_with fail
        refine (sclone_any x.A x.c x.e.rd _ (HX.out.below (HB.out.trans (HW0.out.mono HB.out.size)) (Nat.le_refl _)).rd.at_ HF.out.1).mono ?_
        rintro e w1 ⟨v1, rfl, ho1, hb1⟩
        obtain ⟨A1, c1', rfl, hs1, hf1⟩ := ho1.slf
        have HS1 := Lib.hid hs1
        have HF1 := Lib.hid hf1
        have HBX1 := Lib.hid (HBX.out.below hb1 (by simp))
        have HW1 := Lib.hid (HW0.out.trans (hb1.mono HW0.out.size))
        clear ho1 hs1 hf1 hb1 c0 c1 c2 c3 c4
        have b3 := HBX1.out.c3
        have bf := HBX1.out.free
        have HBX2 := Lib.hid (box_set3 HBX1.out A1 c1')
        have HW2 := Lib.hid (HW1.out.setCell (p := ⟨wr.heap.size, 3, none⟩) (Nat.le_refl _) (.slice A1 x.e.rd.length c1'))
        have HS2 := Lib.hid (slat_set (b := wr.heap.size) HS1.out (fun ad e h => by have := HF1.out ad e; simp at this; omega) 3 (.slice A1 x.e.rd.length c1'))
        have b4 := HBX2.out.c4
        have HZ := Lib.hid (show wr.heap.size < w1.heap.size from HBX1.out.lt)
        have HW2' := Lib.hid (HB.out.trans (HW2.out.mono HB.out.size))
        go_wp2_with fail
        refine (sclone_any x.B x.d x.e.wt _ (HX.out.below HW2'.out (Nat.le_refl _)).wt.at_ HF.out.2).mono ?_
        rintro e w3 ⟨v2, rfl, ho3, hb3⟩
        obtain ⟨B1, d1, rfl, hs3, hf3⟩ := ho3.slf
        have HT3 := Lib.hid hs3
        have HF3 := Lib.hid (show ∀ ad, B1 = some ad → ad.block ≠ wr.heap.size from fun ad e => by have h1 := hf3 ad e; have h2 := HZ.out; simp at h1; omega)
        have HF3b := Lib.hid (show ∀ ad, B1 = some ad → wr.heap.size ≤ ad.block from fun ad e => by have h1 := hf3 ad e; have h2 := HZ.out; simp at h1; omega)
        have HS3 := Lib.hid (HS2.out.below hb3)
        have HBX3 := Lib.hid (HBX2.out.below hb3 (by have := HZ.out; simpa using this))
        have HW3 := Lib.hid (HW2.out.trans (hb3.mono (by have := HZ.out; simp; omega)))
        clear ho3 hs3 hf3 hb3 b3 bf b4
        have b4 := HBX3.out.c4
        have bf := HBX3.out.free
        have HBX4 := Lib.hid (box_set4 HBX3.out B1 d1)
        have HW4 := Lib.hid (HW3.out.setCell (p := ⟨wr.heap.size, 4, none⟩) (Nat.le_refl _) (.slice B1 x.e.wt.length d1))
        have HS4 := Lib.hid (slat_set (b := wr.heap.size) HS3.out (fun ad e h => by have := HF1.out ad e; simp at this; omega) 4 (.slice B1 x.e.wt.length d1))
        have HT4 := Lib.hid (slat_set (b := wr.heap.size) HT3.out HF3.out 4 (.slice B1 x.e.wt.length d1))
        have q0 := HBX4.out.c0
        have q1 := HBX4.out.c1
        have q2 := HBX4.out.c2
        have q3 := HBX4.out.c3
        have q4 := HBX4.out.c4
        rw [show (⟨x.e, A1, c1', B1, d1⟩ : Xc).e.com = true from HC.out] at q1
        have HBN := Lib.hid (Rn.below_new (w3.setCell ⟨wr.heap.size, 4, none⟩ (.slice B1 x.e.wt.length d1)) (.cells #[.int .i64 x.e.id, .bool true, .bool x.e.ovr, .slice A1 x.e.rd.length c1', .slice B1 x.e.wt.length d1] 79))
        have HN := Lib.hid (Rn.At.new (E := encX) (w3.setCell ⟨wr.heap.size, 4, none⟩ (.slice B1 x.e.wt.length d1)) ⟨x.e, A1, c1', B1, d1⟩ #[.int .i64 x.e.id, .bool true, .bool x.e.ovr, .slice A1 x.e.rd.length c1', .slice B1 x.e.wt.length d1] (by simp [HC.out]) 79 (g := w3.heap.size) (by simp))
        have HWL := Lib.hid (HW4.out.trans (HBN.out.mono (by have := HW3.out.size; simpa using this)))
        have HOL := Lib.hid (HO.out.below HWL.out)
        have HOF := Lib.hid (off_fresh (x := ⟨x.e, A1, c1', B1, d1⟩) (n := wr.heap.size) HO.out.row (Nat.le_refl _) (fun ad e => by have := HF1.out ad e; simp at this; omega) (fun ad e => by have := HF3b.out ad e; omega))
        go_wp2_with (at_builtin; refine append_rowG encX vtX rfl _ _ rfl rfl HOL.out.row _ _ [⟨x.e, A1, c1', B1, d1⟩] rfl rfl HN.out (by simp) ?c1 ?c2 ?_)
        case c1 => have := HXL.out; simp; omega
        case c2 => have h1 := HB.out.size; have h2 := HW3.out.size; simp; omega
        intro v' w5 ho5 hg5 hl5
        have HO5 := Lib.hid (OwnI.snoc HOL.out ⟨HS4.out.below HBN.out, HT4.out.below HBN.out⟩ HOF.out ho5 hg5 (by simpa using hl5))
        have HB5 := Lib.hid ((HB.out.trans (HWL.out.mono HB.out.size)).trans (grown_below HOL.out.row hg5 (by have h1 := HB.out.size; have h2 := HW3.out.size; simp; omega)))
        clear ho5 hg5 hl5 q0 q1 q2 q3 q4 b4 bf
        go_wp2
        go_round
        case rel => exact ⟨k + 1, _, by omega, by go_num, by rw [filt_yes HLK.out HC.out]; exact HO5.out, HB5.out⟩
        case measure => simp [intOf]; omega
      | false =>
        have HC := Lib.hid hc
        rw [hc] at c1 HBX HW0
        clear hc
        go_wp2
        go_round
        case rel => exact ⟨k + 1, _, by omega, by go_num, by rw [filt_no HLK.out HC.out]; exact HO.out.below HW0.out, HB.out.trans (HW0.out.mono HB.out.size)⟩
        case measure => simp [intOf]; omega
    · have hlt' : ¬ (k : Int) < (L.length : Int) := by omega
      go_wp2
      go_ret
      have := HO.out
      rw [List.take_of_length_le (by omega)] at this
      exact ⟨_, _, rfl, this, HB.out⟩
end Go.Proofs.YtfdfiiocccafkaaGreatDoor.Rp
