/-
  Contracts of judge.whole and judge.timely.
  What judge.legal is made of: entries copied, entries written over.
  The contract of judge.legal.
  Contracts of judge.Fits and judge.Opaque.
  The answers that the statements of layer 12 ask first.
-/
import Derived.Test.YtaonepbongbhoaaKO
import Derived.Test.YtaonepbongbhoaaKM
import Derived.Test.YtaonepbongbhoaaKI
import Derived.Deep.QuietTactic
import Derived.BigQuiet
import Derived.Test.YtaonepbongbhoaaKY
import Derived.Test.YtaonepbongbhoaaKH
import Derived.Test.YtaonepbongbhoaaKJ
import Derived.Test.YtaonepbongbhoaaKK
namespace Go.Proofs.Ytaonepbongbhoaa.Jd
open Go.RowKit
open Hi (Ev Cr encE encZ crs crL idsL spanL Gc cr ci ids_any spans_any before_c)
/-- it answers whether P. -/
def BoolS (P : Prop) (r : Ending) : Prop := ∃ b, r = .returned (.bool b) ∧ (b = true ↔ P)
theorem boolS_yes {P : Prop} (h : P) : BoolS P (.returned (.bool true)) := ⟨true, rfl, by simpa using h⟩
theorem boolS_no {P : Prop} (h : ¬ P) : BoolS P (.returned (.bool false)) := ⟨false, rfl, by simpa using h⟩
theorem quietE {P : Program} {f : FuncId} {args : Array Value} {w : World} {n : Nat} {v : Value} (h : Calls P f args (w.drewN n) fun e w' => e = .returned v ∧ w.drewN n = w') :
    Calls P f args (w.drewN n) fun e w'' => e = .returned v ∧ ∃ m, w'' = w.drewN m := h.mono fun _ _ ⟨he, hm⟩ => ⟨he, n, hm.symm⟩
set_option maxHeartbeats 2000000 in
theorem whole_any (A B : Option Addr) (c d : Nat) (L : List Ev) (o : List Int) (w : World) (h : Rn.At encE w A L) (hok : ∀ e ∈ L, e.ok) (hl : L.length ≤ 2000) (hB : Rn.At Hi.encI w B o) (ho : o.length ≤ 100000) :
    Calls Try.prog 24 #[.slice A L.length c, .slice B o.length d] w fun r w' => BoolS (Whole o (crL L).length) r ∧ Below w.heap.size w w' := by
  have HI := Lib.hid (ids_any A c L w h hok hl)
  have HO := Lib.hid hB
  have HN := Lib.hid (Hi.crL_ok hl).2
  have hoN : (o.length : Int) ≤ 100000 := by omega
  clear h hok hl hB
  go_enter Try.func24, Try.ntmps24
  go_wp2_with fail
  refine HI.out.mono ?_
  rintro r w1 ⟨BI, dI, rfl, _, _, hat, hb⟩
  have HA := Lib.hid hat
  have HB := Lib.hid hb
  have hlen : (idsL (crL L).length).length = (crL L).length := by simp [idsL]
  rw [hlen]
  clear hat hb hlen
  by_cases he : o.length = (crL L).length
  · have HE := Lib.hid he
    have b0 : ((o.length : Int) != ((crL L).length : Int)) = false := by rw [he]; simp
    have hnN : ((crL L).length : Int) ≤ 32 := by have := HN.out; omega
    clear he
    go_wp2
    go_loopw [17] (fun i wr => ∃ k : Nat, k ≤ (crL L).length ∧ i = .int .i64 k ∧ Aside (Below w.heap.size w wr ∧ Below w1.heap.size w1 wr) ∧ Aside (∀ j : Nat, j < k → (j : Int) + 1 ∈ o)) (fun i _ => (crL L).length - (intOf i).toNat)
    case atStart => exact ⟨0, Nat.zero_le _, rfl, ⟨HB.out, Below.refl _ _⟩, fun j hj => absurd hj (Nat.not_lt_zero _)⟩
    case round =>
      obtain ⟨k, hk, rfl, HW, HM⟩ := hrel
      by_cases hlt : k < (crL L).length
      · have hz : (idsL (crL L).length)[k]? = some ((k : Int) + 1) := by unfold Hi.idsL; rw [List.getElem?_map, List.getElem?_range hlt]; rfl
        obtain ⟨ad, rfl, c0⟩ := atI (HA.out.below HW.out.2 (Nat.le_refl _)) hz
        clear hz
        have hlt' : (k : Int) < ((crL L).length : Int) := by omega
        have h0 : (0 : Int) ≤ (k : Int) := by omega
        by_cases hm : (k : Int) + 1 ∈ o
        · have HX := Lib.hid hm
          have hd : decide ((k : Int) + 1 ∈ o) = true := by simpa using hm
          clear hm
          go_wp2_with fail
          refine (contains_i B d o ((k : Int) + 1) wr (HO.out.below HW.out.1 (Nat.le_refl _)) ho).mono ?_
          rw [hd]
          rintro r w2 ⟨rfl, hw⟩
          subst hw
          clear hd
          go_wp2
          go_roundw
          case rel =>
            refine ⟨k + 1, by omega, by go_num, HW.out, (show Aside _ from fun j hj => ?_)⟩
            by_cases e : j = k
            · subst e; exact HX.out
            · exact HM.out j (by omega)
          case measure => simp [intOf]; omega
        · have HX := Lib.hid hm
          have hd : decide ((k : Int) + 1 ∈ o) = false := by simpa using hm
          have HK := Lib.hid hlt
          clear hm
          go_wp2_with fail
          refine (contains_i B d o ((k : Int) + 1) wr (HO.out.below HW.out.1 (Nat.le_refl _)) ho).mono ?_
          rw [hd]
          rintro r w2 ⟨rfl, hw⟩
          subst hw
          clear hd
          go_wp2
          go_ret
          exact ⟨boolS_no fun h => HX.out (h.has k HK.out), HW.out.1⟩
      · have hlt' : ¬ (k : Int) < ((crL L).length : Int) := by omega
        have HK := Lib.hid hlt
        go_wp2
        go_ret
        exact ⟨boolS_yes ⟨HE.out, fun j hj => HM.out j (by have := HK.out; omega)⟩, HW.out.1⟩
  · have HE := Lib.hid he
    have b0 : ((o.length : Int) != ((crL L).length : Int)) = true := by simp; omega
    clear he
    go_wp2
    go_ret
    exact ⟨boolS_no fun h => HE.out h.len, HB.out⟩
theorem node_q (j : Nat) (w : World) (h : j < 32) : Calls Try.prog 21 #[.int .i64 ((j : Int) + 1)] w fun e w' => e = .returned (.int .i64 (j : Nat)) ∧ w = w' := by
  refine (node_x ((j : Int) + 1) w ⟨by omega, by omega⟩).mono ?_
  rintro e w' ⟨rfl, rfl⟩
  exact ⟨by rw [show (j : Int) + 1 - 1 = (j : Int) from by omega], rfl⟩
theorem atZ {w : World} {A : Option Addr} {X : List (Nat × Nat)} (h : Rn.At encZ w A X) {j : Nat} {x : Nat × Nat} (hx : X[j]? = some x) : ∃ ad, A = some ad ∧ w.cell? (ad.add j) = some (.complex .f64 x.1 x.2) := by
  obtain ⟨ad, e, hc⟩ := h.get hx
  exact ⟨ad, e, by have := hc 0 _ rfl; simpa using this⟩
theorem span_at {l : List Cr} {j : Nat} {c : Cr} (h : l[j]? = some c) : (spanL l)[j]? = some (cr c, ci c) := by unfold Hi.spanL; rw [List.getElem?_map, h]; rfl
theorem crL_gc {L : List Ev} (hl : L.length ≤ 2000) {j : Nat} {c : Cr} (h : (crL L)[j]? = some c) : Gc c := ((Hi.crL_ok hl).1 c (List.mem_of_getElem? h)).gc (Nat.le_refl _)
/-- the rows that timely reads. -/
structure Ty (w : World) (B S : Option Addr) (o : List Int) (l : List Cr) (W : World) : Prop where
  ord : Rn.At Hi.encI W B o
  sp : Rn.At encZ W S (spanL l)
  bel : Below w.heap.size w W
theorem Ty.below {w : World} {B S : Option Addr} {o : List Int} {l : List Cr} {W W' : World} (h : Ty w B S o l W) (hb : Below W.heap.size W W') : Ty w B S o l W' :=
  ⟨at_below h.ord hb, at_below h.sp hb, h.bel.trans (hb.mono h.bel.size)⟩
/-- the first i are timely; and the i-th beside the first k. -/
def TyTo (l : List Cr) (o : List Int) (i : Nat) : Prop := ∀ (p k : Nat) (x y : Int) (c d : Cr), p < i → k < p → o[p]? = some x → o[k]? = some y → l[(x - 1).toNat]? = some c → l[(y - 1).toNat]? = some d → ¬ c.e < d.b
def TyIn (l : List Cr) (o : List Int) (p i : Nat) : Prop := ∀ (k : Nat) (x y : Int) (c d : Cr), k < i → o[p]? = some x → o[k]? = some y → l[(x - 1).toNat]? = some c → l[(y - 1).toNat]? = some d → ¬ c.e < d.b
def TyRel (w : World) (B S : Option Addr) (o : List Int) (l : List Cr) (i : Value) (wr : World) : Prop := ∃ k : Nat, k ≤ o.length ∧ i = .int .i64 k ∧ Ty w B S o l wr ∧ TyTo l o k
def TiRel (w : World) (B S : Option Addr) (o : List Int) (l : List Cr) (p : Nat) (i : Value) (wr : World) : Prop := ∃ k : Nat, k ≤ p ∧ i = .int .i64 k ∧ Ty w B S o l wr ∧ TyIn l o p k
set_option maxHeartbeats 4000000 in
theorem timely_any (A B : Option Addr) (c d : Nat) (L : List Ev) (o : List Int) (w : World) (h : Rn.At encE w A L) (hok : ∀ e ∈ L, e.ok) (hl : L.length ≤ 2000) (hB : Rn.At Hi.encI w B o) (ho : o.length ≤ d) (hd : d ≤ maxLen) (hin : ∀ x ∈ o, 1 ≤ x ∧ x ≤ ((crL L).length : Int)) :
    Calls Try.prog 25 #[.slice A L.length c, .slice B o.length d] w fun r w' => BoolS (Timely (crL L) o) r ∧ Below w.heap.size w w' := by
  have HS := Lib.hid (spans_any A c L w h hok hl)
  have HO := Lib.hid hB
  have HL := Lib.hid hl
  have HN := Lib.hid (Hi.crL_ok hl).2
  have HIN := Lib.hid hin
  have HOD := Lib.hid ho
  have hoN : (o.length : Int) ≤ 9223372036854775807 := by unfold maxLen at hd; omega
  have hdN : (o.length : Int) ≤ (d : Int) := by omega
  clear h hok hl hB hin
  go_enter Try.func25, Try.ntmps25
  go_wp2_with fail
  refine HS.out.mono ?_
  rintro r w1 ⟨S, dS, rfl, _, _, hat, hb⟩
  have HT := Lib.hid (show Ty w B S o (crL L) w1 from ⟨at_below HO.out hb, hat, hb⟩)
  have hlen : (spanL (crL L)).length = (crL L).length := by unfold Hi.spanL; rw [List.length_map]
  rw [hlen]
  have hnN : ((crL L).length : Int) ≤ 32 := by have := HN.out; omega
  clear hat hb hlen
  go_wp2
  go_loopw [14] (TyRel w B S o (crL L)) (fun i _ => o.length - (intOf i).toNat)
  case atStart => exact ⟨0, Nat.zero_le _, rfl, HT.out, fun p k x y c d hp => absurd hp (Nat.not_lt_zero _)⟩
  case round =>
    obtain ⟨p, hp, rfl, hty, htt⟩ := hrel
    have HTY := Lib.hid hty
    have HTT := Lib.hid htt
    clear hty htt
    by_cases hlt : p < o.length
    · obtain ⟨x, hx⟩ : ∃ x, o[p]? = some x := ⟨_, List.getElem?_eq_getElem hlt⟩
      obtain ⟨ad, hBe, c0⟩ := atI HTY.out.ord hx
      have hxi := HIN.out x (List.mem_of_getElem? hx)
      obtain ⟨jx, rfl⟩ : ∃ jx : Nat, x = (jx : Int) + 1 := ⟨(x - 1).toNat, by omega⟩
      have hjx : jx < (crL L).length := by omega
      obtain ⟨cx, hcx⟩ : ∃ cx, (crL L)[jx]? = some cx := ⟨_, List.getElem?_eq_getElem hjx⟩
      have HX := Lib.hid hx
      have HCX := Lib.hid hcx
      have HGX := Lib.hid (crL_gc HL.out hcx)
      have HJX := Lib.hid hjx
      have HPL := Lib.hid hlt
      have HBE := Lib.hid hBe
      subst hBe
      clear hx hcx hxi hjx HBE
      have hlt' : (p : Int) < (o.length : Int) := by omega
      have h0 : (0 : Int) ≤ (p : Int) := by omega
      have hpd : (p : Int) ≤ (d : Int) := by omega
      obtain ⟨wo, hwo⟩ : ∃ wo, wo = wr := ⟨_, rfl⟩
      subst hwo
      go_wp2
      go_loopw [23] (TiRel w (some ad) S o (crL L) p) (fun i _ => p - (intOf i).toNat)
      case atStart => exact ⟨0, Nat.zero_le _, rfl, HTY.out, fun k x y c d hk => absurd hk (Nat.not_lt_zero _)⟩
      case round =>
        obtain ⟨k, hk, rfl, hty, htt⟩ := hrel
        have HTY := Lib.hid hty
        have HTI := Lib.hid htt
        clear hty htt
        by_cases hlt2 : k < p
        · have hko : k < o.length := by have := HPL.out; omega
          obtain ⟨y, hy⟩ : ∃ y, o[k]? = some y := ⟨_, List.getElem?_eq_getElem hko⟩
          obtain ⟨ad2, hB2, c1⟩ := atI HTY.out.ord hy
          obtain rfl := Option.some.inj hB2
          have hyi := HIN.out y (List.mem_of_getElem? hy)
          obtain ⟨jy, rfl⟩ : ∃ jy : Nat, y = (jy : Int) + 1 := ⟨(y - 1).toNat, by omega⟩
          have hjy : jy < (crL L).length := by omega
          obtain ⟨cy, hcy⟩ : ∃ cy, (crL L)[jy]? = some cy := ⟨_, List.getElem?_eq_getElem hjy⟩
          obtain ⟨sd, rfl, s0⟩ := atZ HTY.out.sp (span_at HCX.out)
          obtain ⟨sd2, hS2, s1⟩ := atZ HTY.out.sp (span_at hcy)
          obtain rfl := Option.some.inj hS2
          have HY := Lib.hid hy
          have HCY := Lib.hid hcy
          have HGY := Lib.hid (crL_gc HL.out hcy)
          have HJX2 := Lib.hid (show jx < 32 by have := HJX.out; have := HN.out; omega)
          have HJY2 := Lib.hid (show jy < 32 by have := HN.out; omega)
          have hx1 : (jx : Int) < ((crL L).length : Int) := by have := HJX.out; omega
          have hy1 : (jy : Int) < ((crL L).length : Int) := by omega
          have hx0 : (0 : Int) ≤ (jx : Int) := by omega
          have hy0 : (0 : Int) ≤ (jy : Int) := by omega
          have hlt2' : (k : Int) < (p : Int) := by omega
          have hk0 : (0 : Int) ≤ (k : Int) := by omega
          clear hy hcy hyi hjy hB2 hS2 hko
          by_cases hbf : cx.e < cy.b
          · have HBF := Lib.hid (show decide (cx.e < cy.b) = true by simpa using hbf)
            have HBX := Lib.hid hbf
            clear hbf
            go_wp2
            go_quiet ((first
              | (go_at_call 28; exact quietE (before_c HGX.out HGY.out HBF.out _))
              | (go_at_call_of 21 (jx : Int); exact quietE (node_q jx _ HJX2.out))
              | (go_at_call_of 21 (jy : Int); exact quietE (node_q jy _ HJY2.out))))
            go_wp2
            go_ret
            exact ⟨boolS_no fun h => h p k _ _ cx cy hlt2 HX.out HY.out (by rw [show ((jx : Int) + 1 - 1).toNat = jx by omega]; exact HCX.out) (by rw [show ((jy : Int) + 1 - 1).toNat = jy by omega]; exact HCY.out) HBX.out, (HTY.out.below (Tx.below_drewN _ _ _)).bel⟩
          · have HBF := Lib.hid (show decide (cx.e < cy.b) = false by simpa using hbf)
            have HBX := Lib.hid hbf
            clear hbf
            go_wp2
            go_quiet ((first
              | (go_at_call 28; exact quietE (before_c HGX.out HGY.out HBF.out _))
              | (go_at_call_of 21 (jx : Int); exact quietE (node_q jx _ HJX2.out))
              | (go_at_call_of 21 (jy : Int); exact quietE (node_q jy _ HJY2.out))))
            go_wp2
            go_round
            case rel =>
              refine ⟨k + 1, by omega, by go_num, HTY.out.below (Tx.below_drewN _ _ _), fun q x y c d hq hx hy hc hd => ?_⟩
              by_cases e : q = k
              · subst e
                rw [HX.out] at hx
                rw [HY.out] at hy
                obtain rfl := Option.some.inj hx
                obtain rfl := Option.some.inj hy
                rw [show ((jx : Int) + 1 - 1).toNat = jx by omega, HCX.out] at hc
                rw [show ((jy : Int) + 1 - 1).toNat = jy by omega, HCY.out] at hd
                obtain rfl := Option.some.inj hc
                obtain rfl := Option.some.inj hd
                exact HBX.out
              · exact HTI.out q x y c d (by omega) hx hy hc hd
            case measure => simp [intOf]; omega
        · have hlt2' : ¬ (k : Int) < (p : Int) := by omega
          obtain rfl : k = p := by omega
          go_wp2
          exact ⟨⟨k + 1, by have := HPL.out; omega, by go_num, HTY.out, fun q r x y c d hq hr hx hy hc hd => by
            by_cases e : q = k
            · subst e; exact HTI.out r x y c d hr hx hy hc hd
            · exact HTT.out q r x y c d (by omega) hr hx hy hc hd⟩, by simp [intOf]; have := HPL.out; omega⟩
    · have hlt' : ¬ (p : Int) < (o.length : Int) := by omega
      obtain rfl : p = o.length := by omega
      go_wp2
      go_ret
      exact ⟨boolS_yes fun i k x y c d hk hx hy hc hd => HTT.out i k x y c d (List.getElem?_eq_some_iff.1 hx).1 hk hx hy hc hd, HTY.out.bel⟩
end Go.Proofs.Ytaonepbongbhoaa.Jd
namespace Go.Proofs.Ytaonepbongbhoaa.Jd
open Go.RowKit
open Hi (Ev Cr encE crs crL entL entF ent_size ent_one ItS)
open Rp (Ent Xc encX OwnI ItAt RdX Off ItPost vtX few allN VlPost firsts cl AllPost)
/-- an entry is written over. -/
theorem own_ent2 {W : World} {base g n c : Nat} {Y : List Xc} {E : List Ent} {j : Nat} {y : Xc} {e0 : Ent} (h : OwnI 44 W base (.slice (some ⟨g, 0, none⟩) n c) Y E) (hj : j < E.length) (he0 : y.e = e0) (hy : RdX W y) (hof : Off (some g) y) :
    OwnI 44 (W.setCells g (j * 5) [.int .i64 y.e.id, .bool y.e.com, .bool y.e.ovr, .slice y.A y.e.rd.length y.c, .slice y.B y.e.wt.length y.d]) base (.slice (some ⟨g, 0, none⟩) n c) (Y.set j y) (E.set j e0) ∧
      Below g W (W.setCells g (j * 5) [.int .i64 y.e.id, .bool y.e.com, .bool y.e.ovr, .slice y.A y.e.rd.length y.c, .slice y.B y.e.wt.length y.d]) ∧ W.there g (j * 5) 5 := by
  subst he0
  have hjy : j < Y.length := by rw [h.len]; exact hj
  have hz : Y[j]? = some Y[j] := List.getElem?_eq_getElem hjy
  generalize Y[j] = z at hz
  have p0 := h.row.put hz 0 (by decide) (.int .i64 y.e.id) (v' := ⟨⟨y.e.id, z.e.com, z.e.ovr, z.e.rd, z.e.wt⟩, z.A, z.c, z.B, z.d⟩) rfl
  have q : ∀ u, (Y.set j u)[j]? = some u := fun u => by rw [List.getElem?_set_self hjy]
  have p1 := p0.put (q _) 1 (by decide) (.bool y.e.com) (v' := ⟨⟨y.e.id, y.e.com, z.e.ovr, z.e.rd, z.e.wt⟩, z.A, z.c, z.B, z.d⟩) rfl
  rw [List.set_set] at p1
  have p2 := p1.put (q _) 2 (by decide) (.bool y.e.ovr) (v' := ⟨⟨y.e.id, y.e.com, y.e.ovr, z.e.rd, z.e.wt⟩, z.A, z.c, z.B, z.d⟩) rfl
  rw [List.set_set] at p2
  have p3 := p2.put (q _) 3 (by decide) (.slice y.A y.e.rd.length y.c) (v' := ⟨⟨y.e.id, y.e.com, y.e.ovr, y.e.rd, z.e.wt⟩, y.A, y.c, z.B, z.d⟩) rfl
  rw [List.set_set] at p3
  have p4 := p3.put (q _) 4 (by decide) (.slice y.B y.e.wt.length y.d) (v' := y) rfl
  rw [List.set_set] at p4
  have hb : Below g W (W.setCells g (j * 5) [.int .i64 y.e.id, .bool y.e.com, .bool y.e.ovr, .slice y.A y.e.rd.length y.c, .slice y.B y.e.wt.length y.d]) :=
    (((((Below.refl g W).setCell (Nat.le_refl _) _).setCell (Nat.le_refl _) _).setCell (Nat.le_refl _) _).setCell (Nat.le_refl _) _).setCell (Nat.le_refl _) _
  have hgr : W.grownBy (W.setCells g (j * 5) [.int .i64 y.e.id, .bool y.e.com, .bool y.e.ovr, .slice y.A y.e.rd.length y.c, .slice y.B y.e.wt.length y.d]) (some g) := by
    have hh : ∀ (V : World) (i : Nat) (u : Value), V.grownBy (V.setCell ⟨g, i, none⟩ u) (some g) := fun V i u => by
      refine ⟨rfl, rfl, rfl, by simp [World.setCell], fun k hk hne => Below.heap_setCell _ _ _ _ (fun e => hne (by rw [e]))⟩
    have t : ∀ {V1 V2 V3 : World}, V1.grownBy V2 (some g) → V2.grownBy V3 (some g) → V1.grownBy V3 (some g) := fun a b => a.andThen b (fun _ hj => .inr hj)
    exact t (t (t (t (hh _ _ _) (hh _ _ _)) (hh _ _ _)) (hh _ _ _)) (hh _ _ _)
  have hoff : ∀ u ∈ Y.set j y, RdX W u ∧ Off (some g) u := fun u hu => by
    rcases List.mem_or_eq_of_mem_set hu with hu | rfl
    · exact ⟨h.rd u hu, h.off u hu⟩
    · exact ⟨hy, hof⟩
  refine ⟨⟨p4, by rw [List.map_set, h.es], fun u hu => (hoff u hu).1.grown hgr (hoff u hu).2, fun u hu => (hoff u hu).2⟩, hb, fun i hi => ?_⟩
  have hc := h.row.get hz i hi
  have hc' : W.cell? ⟨g, j * 5 + i, none⟩ = (encX.cells z)[i]? := hc
  refine ⟨?_, h.row.free (j * 5 + i)⟩
  rw [hc', List.getElem?_eq_getElem (by rw [encX.len]; exact hi)]; rfl
set_option maxHeartbeats 1000000 in
theorem eclone_any (A : Option Addr) (c : Nat) (X : List Xc) (L : List Ent) (w : World) (h : ItAt w A X L) (hl : L.length ≤ 300) :
    Calls Try.prog 41 #[.slice A L.length c] w fun r w' => (∃ v, r = .returned v ∧ OwnI 44 w' w.heap.size v X L) ∧ Below w.heap.size w w' := by
  have H := Lib.hid h
  have hx := h.len
  have HX := Lib.hid hx
  clear h
  rw [← hx]
  rw [← hx] at hl
  clear hx
  have hnil := fun W => Rn.eq_nil vtX A X.length c W
  rcases A with _ | ad
  · have hX := H.out.row.nil_
    subst hX
    clear hnil
    have hnil := fun W => Rn.eq_nil vtX none 0 c W
    have hL : L = [] := by rw [← H.out.es]; rfl
    subst hL
    go_enter Try.func41, Try.ntmps41
    go_wp2
    go_ret
    exact ⟨⟨_, rfl, OwnI.nil _ _ _⟩, Below.refl _ _⟩
  · go_enter Try.func41, Try.ntmps41
    go_wp2_with (at_builtin; refine Rn.append_row encX vtX rfl _ _ rfl rfl (Rn.Own.empty w 44 rfl (Nat.le_refl _)) _ _ X rfl rfl (H.out.row.alloc _) ?c1 ?c2 ?_)
    case c1 => simp; omega
    case c2 => simp
    intro v' w1 ho1 hb1 hs1
    have HO1 := Lib.hid ho1
    have HB1 := Lib.hid ((Rn.below_new w (.cells #[] 44)).trans hb1)
    clear ho1 hb1
    go_wp2
    go_ret
    have hrow : Rn.Own encX w1 w.heap.size 44 v' X := by have := HO1.out; simpa using this
    exact ⟨⟨_, rfl, hrow, H.out.es, fun x hx => (H.out.rd x hx).below HB1.out (Nat.le_refl _), fun x hx => Rp.off_old hrow (H.out.rd x hx) (Nat.le_refl _)⟩, HB1.out⟩
theorem zero_few : (Hi.zeroE).rd.length ≤ 300 ∧ (Hi.zeroE).wt.length ≤ 300 := by decide
theorem entF_few (L : List Ev) (i : Nat) : (entF L (crL L) i).rd.length ≤ 300 ∧ (entF L (crL L) i).wt.length ≤ 300 := by
  rcases Nat.lt_or_ge i (crL L).length with h | h
  · exact Hi.entL_few L _ (List.mem_map.2 ⟨i, List.mem_range.2 h, rfl⟩)
  · have : entF L (crL L) i = Hi.zeroE := by unfold Hi.entF; rw [List.getElem?_eq_none h]
    rw [this]; exact zero_few
theorem rowO_few (L : List Ev) (o : List Int) : few (rowO L o) := fun e he => by
  obtain ⟨x, _, rfl⟩ := List.mem_map.1 he
  exact entF_few L _
theorem rowO_len (L : List Ev) (o : List Int) : (rowO L o).length = o.length := by simp [rowO]
theorem rowO_at {L : List Ev} {o : List Int} {k : Nat} {x : Int} (h : o[k]? = some x) : (rowO L o)[k]? = some (entF L (crL L) (x - 1).toNat) := by unfold rowO; rw [List.getElem?_map, h]; rfl
theorem entL_at {L : List Ev} {j : Nat} (h : j < (crL L).length) : (entL L)[j]? = some (entF L (crL L) j) := by unfold Hi.entL; rw [List.getElem?_map, List.getElem?_range h]; rfl
theorem entL_len (L : List Ev) : (entL L).length = (crL L).length := by simp [Hi.entL]
/-- the first k are those of the order. -/
def rowTo (L : List Ev) (o : List Int) (k : Nat) : List Ent := (rowO L o).take k ++ (entL L).drop k
theorem rowTo_zero (L : List Ev) (o : List Int) : rowTo L o 0 = entL L := by simp [rowTo]
theorem rowTo_len {L : List Ev} {o : List Int} (h : o.length = (crL L).length) (k : Nat) (hk : k ≤ o.length) : (rowTo L o k).length = o.length := by
  unfold rowTo
  rw [List.length_append, List.length_take, List.length_drop, rowO_len, entL_len, ← h]; omega
theorem rowTo_all {L : List Ev} {o : List Int} (h : o.length = (crL L).length) : rowTo L o o.length = rowO L o := by
  unfold rowTo
  rw [List.take_of_length_le (by rw [rowO_len]; exact Nat.le_refl _), List.drop_of_length_le (by rw [entL_len, ← h]; exact Nat.le_refl _), List.append_nil]
theorem rowTo_step {L : List Ev} {o : List Int} (h : o.length = (crL L).length) {k : Nat} {x : Int} (hk : o[k]? = some x) : (rowTo L o k).set k (entF L (crL L) (x - 1).toNat) = rowTo L o (k + 1) := by
  have hkl := (List.getElem?_eq_some_iff.1 hk).1
  unfold rowTo
  have ht : ((rowO L o).take k).length = k := by rw [List.length_take, rowO_len]; omega
  rw [List.set_append_right _ _ (by omega), ht, Nat.sub_self]
  have hd : (entL L).drop k = (entF L (crL L) k) :: (entL L).drop (k + 1) := by
    rw [List.drop_eq_getElem_cons (by rw [entL_len, ← h]; exact hkl)]
    have := entL_at (L := L) (j := k) (by omega)
    rw [List.getElem?_eq_getElem (by rw [entL_len, ← h]; exact hkl)] at this
    rw [Option.some.inj this]
  rw [hd, List.set_cons_zero, Rn.step_take (rowO_at hk), List.append_assoc]
  rfl
/-- what legal has while it fills the row. -/
structure Lg (w : World) (B BE : Option Addr) (o : List Int) (X : List Xc) (L : List Ev) (base : Nat) (v : Value) (Y : List Xc) (k : Nat) (W : World) : Prop where
  ord : Rn.At Hi.encI W B o
  ents : ItAt W BE X (entL L)
  row : OwnI 44 W base v Y (rowTo L o k)
  bel : Below w.heap.size w W
def LgRel (w : World) (B BE : Option Addr) (o : List Int) (X : List Xc) (L : List Ev) (base : Nat) (wb : World) (v : Value) (i : Value) (wr : World) : Prop := ∃ (k : Nat) (Y : List Xc), k ≤ o.length ∧ i = .int .i64 k ∧ Lg w B BE o X L base v Y k wr ∧ Below base wb wr
end Go.Proofs.Ytaonepbongbhoaa.Jd
namespace Go.Proofs.Ytaonepbongbhoaa.Jd
open Go.RowKit
open Hi (Ev Cr encE crs crL entL entF ent_size ent_one ItS)
open Rp (Ent Xc encX OwnI ItAt RdX Off ItPost vtX few allN VlPost firsts cl AllPost)
set_option maxRecDepth 100000 in
set_option maxHeartbeats 4000000 in
theorem legal_any (A B : Option Addr) (c d : Nat) (L : List Ev) (o : List Int) (w : World) (h : Rn.At encE w A L) (hok : ∀ e ∈ L, e.ok) (hl : L.length ≤ 2000) (hB : Rn.At Hi.encI w B o) (ho : o.length = (crL L).length) (hin : ∀ x ∈ o, 1 ≤ x ∧ x ≤ ((crL L).length : Int)) :
    Calls Try.prog 26 #[.slice A L.length c, .slice B o.length d] w fun r w' => BoolS (allN S0 (rowO L o) = -1) r ∧ Below w.heap.size w w' := by
  have HE := Lib.hid (Hi.entries_any A c L w h hok hl)
  have HO := Lib.hid hB
  have HN := Lib.hid (Hi.crL_ok hl).2
  have HIN := Lib.hid hin
  have HOL := Lib.hid ho
  have hoN : (o.length : Int) ≤ 32 := by have := HN.out; omega
  clear h hok hl hB hin ho
  obtain ⟨S, hS⟩ : ∃ S, S = S0 := ⟨_, rfl⟩
  rw [← hS]
  have HS0 := Lib.hid (show S.length ≤ 300 from by rw [hS]; decide)
  have HCL := Lib.hid (show firsts (cl 64) = S from by rw [hS, show cl 64 = 64 from by decide]; rfl)
  clear hS
  go_enter Try.func26, Try.ntmps26
  go_wp2_with fail
  refine HE.out.mono ?_
  rintro r w1 ⟨BE, dE, X, rfl, _, _, hit, hb⟩
  have HI1 := Lib.hid hit
  have HB1 := Lib.hid hb
  clear hit hb
  go_wp2_with fail
  refine (eclone_any BE dE X (entL L) w1 HI1.out (by rw [entL_len]; have := HN.out; omega)).mono ?_
  rintro r w2 ⟨⟨v, rfl, hown⟩, hb⟩
  have HG0 := Lib.hid (show Lg w B BE o X L w1.heap.size v X 0 w2 from ⟨HO.out.below (HB1.out.trans (hb.mono HB1.out.size)) (Nat.le_refl _), HI1.out.below hb (Nat.le_refl _), by rw [rowTo_zero]; exact hown, HB1.out.trans (hb.mono HB1.out.size)⟩)
  have HB2 := Lib.hid hb
  clear hown hb
  rw [entL_len, ← HOL.out]
  go_wp2
  go_loopw [17] (fun i wr => LgRel w B BE o X L w1.heap.size w1 v i wr) (fun i _ => o.length - (intOf i).toNat)
  case atStart => exact ⟨0, X, Nat.zero_le _, rfl, HG0.out, HB2.out⟩
  case round =>
    obtain ⟨k, Y, hk, rfl, hlg, hbw⟩ := hrel
    have HLG := Lib.hid hlg
    have HBW := Lib.hid hbw
    clear hlg hbw
    by_cases hlt : k < o.length
    · obtain ⟨x, hx⟩ : ∃ x, o[k]? = some x := ⟨_, List.getElem?_eq_getElem hlt⟩
      obtain ⟨ad, hBe, c0⟩ := atI HLG.out.ord hx
      have hxi := HIN.out x (List.mem_of_getElem? hx)
      obtain ⟨jx, rfl⟩ : ∃ jx : Nat, x = (jx : Int) + 1 := ⟨(x - 1).toNat, by omega⟩
      have hjx : jx < (crL L).length := by omega
      obtain ⟨ae, y, hAe, hXk, hek, hrd, h5⟩ := HLG.out.ents.at_ (j := jx) (by rw [entL_len]; exact hjx)
      have hye : y.e = entF L (crL L) jx := by
        have := hek.symm.trans (entL_at hjx)
        exact Option.some.inj this
      obtain ⟨e0, e1, e2, e3, e4⟩ := h5
      have hro : (rowTo L o k).length = o.length := rowTo_len HOL.out k hk
      have hyl : Y.length = o.length := by rw [HLG.out.row.len]; exact hro
      obtain ⟨g, cg, hve, hg1, hg2, hg3, hg4⟩ := own_some HLG.out.row.row (by omega)
      rw [hyl] at hve
      have HYE := Lib.hid hye
      have HX := Lib.hid hx
      have HKO := Lib.hid hlt
      have HJX := Lib.hid (show jx < 32 by have := HN.out; omega)
      have hrd1 := (HI1.out.rd y (List.mem_of_getElem? hXk))
      have hlow := HLG.out.row
      rw [hve] at hlow
      have HPUT := Lib.hid (own_ent2 hlow (j := k) (e0 := entF L (crL L) jx) (by rw [hro]; exact hlt) hye hrd (by have := Rp.off_old HLG.out.row.row hrd1 (Nat.le_refl _); rw [hve] at this; exact this))
      have HG1 := Lib.hid hg1
      have HTH := Lib.hid (show wr.there g (k * 5) (#[.int .i64 y.e.id, .bool y.e.com, .bool y.e.ovr, .slice y.A y.e.rd.length y.c, .slice y.B y.e.wt.length y.d] : Array Value).size from HPUT.out.2.2)
      subst hBe hAe hve
      clear hx hxi hek hXk hrd hrd1 hlow hro hyl hye
      have hlt' : (k : Int) < (o.length : Int) := by omega
      have h0 : (0 : Int) ≤ (k : Int) := by omega
      have hj1 : (jx : Int) < (o.length : Int) := by have := HOL.out; omega
      have hj0 : (0 : Int) ≤ (jx : Int) := by omega
      go_wp2_with fail
      refine (node_q jx wr HJX.out).mono ?_
      rintro r w3 ⟨rfl, hw⟩
      subst hw
      go_wp2_with (refine wpList_store_mid rfl 44 (.tmp 29) (.tmp 28) rfl g (k * 5) #[.int .i64 y.e.id, .bool y.e.com, .bool y.e.ovr, .slice y.A y.e.rd.length y.c, .slice y.B y.e.wt.length y.d] rfl rfl HTH.out ent_size (ent_one y) ?_; generalize World.setCells wr g (k * 5) _ = w4 at HPUT ⊢)
      go_roundw
      case rel =>
        have hb : Below w1.heap.size wr w4 := HPUT.out.2.1.mono HG1.out
        refine ⟨k + 1, Y.set k y, by have := HKO.out; omega, by go_num, ⟨?_, ?_, ?_, ?_⟩, HBW.out.trans hb⟩
        · exact HO.out.below (HB1.out.trans ((HBW.out.trans hb).mono HB1.out.size)) (Nat.le_refl _)
        · exact HI1.out.below (HBW.out.trans hb) (Nat.le_refl _)
        · have := HPUT.out.1
          rw [show jx = ((jx : Int) + 1 - 1).toNat by omega, rowTo_step HOL.out HX.out] at this
          exact this
        · exact HB1.out.trans ((HBW.out.trans hb).mono HB1.out.size)
      case measure => simp [intOf]; omega
    · have hlt' : ¬ (k : Int) < (o.length : Int) := by omega
      obtain rfl : k = o.length := by omega
      have hrow := HLG.out.row
      rw [rowTo_all HOL.out] at hrow
      obtain ⟨BR, dR, hve, hR1, hR2, hRit⟩ := hrow.slice
      have HRI := Lib.hid hRit
      rw [rowO_len] at hve
      subst hve
      clear hrow hRit hR1 hR2
      go_wp2_with fail
      refine (Rp.begin_any 64 wr).mono ?_
      rintro r w3 ⟨vb, rfl, hown, hb⟩
      obtain ⟨AB, cB, rfl, _, _, hAB, _⟩ := hown.slice
      rw [HCL.out] at hAB ⊢
      have HB3 := Lib.hid (HLG.out.bel.trans (hb.mono HLG.out.bel.size))
      have HR3 := Lib.hid (HRI.out.below hb (Nat.le_refl _))
      have HA3 := Lib.hid hAB
      clear hown hb hAB
      have HAL := Rp.all_any AB BR cB dR S _ (rowO L o) w3 HA3.out HR3.out (rowO_few L o) (by rw [rowO_len]; have := HOL.out; have := HN.out; omega) HS0.out
      rw [rowO_len] at HAL
      have HAL := Lib.hid HAL
      go_wp2_with fail
      refine HAL.out.mono ?_
      rintro r w4 ⟨v4, rfl, _, hb⟩
      have HB4 := Lib.hid (HB3.out.trans (hb.mono HB3.out.size))
      clear hb
      by_cases hq : allN S (rowO L o) = -1
      · have HQ := Lib.hid hq
        have b0 : (allN S (rowO L o) == -1) = true := by simpa using hq
        clear hq
        go_wp2
        go_ret
        exact ⟨boolS_yes HQ.out, HB4.out⟩
      · have HQ := Lib.hid hq
        have b0 : (allN S (rowO L o) == -1) = false := by simpa using hq
        clear hq
        go_wp2
        go_ret
        exact ⟨boolS_no HQ.out, HB4.out⟩
end Go.Proofs.Ytaonepbongbhoaa.Jd
namespace Go.Proofs.Ytaonepbongbhoaa.Jd
open Go.RowKit
open Hi (Ev encE crs crL)
open Rp (allN)
set_option maxHeartbeats 4000000 in
theorem fits_any (A B : Option Addr) (c d : Nat) (L : List Ev) (o : List Int) (w : World) (h : Rn.At encE w A L) (hok : ∀ e ∈ L, e.ok) (hl : L.length ≤ 2000) (hB : Rn.At Hi.encI w B o) (ho : o.length ≤ d) (hd : d ≤ maxLen) (ho2 : o.length ≤ 100000) :
    Calls Try.prog 9 #[.slice A L.length c, .slice B o.length d] w fun r w' => r = .returned (.bool (fitB L o)) ∧ Below w.heap.size w w' := by
  have H := Lib.hid h
  have HO := Lib.hid hB
  have HOK := Lib.hid hok
  have HL := Lib.hid hl
  have HD := Lib.hid (show o.length ≤ d ∧ d ≤ maxLen ∧ o.length ≤ 100000 from ⟨ho, hd, ho2⟩)
  have HR := Lib.hid (Hi.right_any A c L w h hok hl)
  clear h hok hl hB ho hd ho2
  cases hcs : (crs L).isSome with
  | false =>
    rw [fitB_no (show ¬ Fit L o from fun q => by have := q.is; rw [hcs] at this; cases this)]
    rw [hcs] at HR
    clear hcs
    go_enter Try.func9, Try.ntmps9
    go_wp2_with fail
    refine HR.out.mono ?_
    rintro r w1 ⟨rfl, hb⟩
    have HB := Lib.hid hb
    clear hb
    go_wp2
    go_ret
    exact ⟨rfl, HB.out⟩
  | true =>
    rw [hcs] at HR
    have HCS := Lib.hid hcs
    clear hcs
    have HFP := Lib.hid (fit_parts (L := L) (o := o))
    generalize hff : fitB L o = ff
    have HFF := Lib.hid hff
    clear hff
    go_enter Try.func9, Try.ntmps9
    go_wp2_with fail
    refine HR.out.mono ?_
    rintro r w1 ⟨rfl, hb⟩
    have HB1 := Lib.hid hb
    clear hb
    go_wp2_with fail
    refine (whole_any A B c d L o w1 (H.out.below HB1.out (Nat.le_refl _)) HOK.out HL.out (HO.out.below HB1.out (Nat.le_refl _)) HD.out.2.2).mono ?_
    rintro r w2 ⟨⟨b, rfl, hb⟩, hbw⟩
    have HB2 := Lib.hid (HB1.out.trans (hbw.mono HB1.out.size))
    have HW := Lib.hid hb
    clear hb hbw
    cases b with
    | false =>
      have HE := Lib.hid (show ff = false from by rw [← HFF.out]; exact fitB_no fun q => by have := HW.out.2 (HFP.out.1 q).2.1; cases this)
      go_wp2
      go_ret
      exact ⟨by rw [HE.out]; rfl, HB2.out⟩
    | true =>
      have HWH := Lib.hid (HW.out.1 rfl)
      go_wp2_with fail
      refine (timely_any A B c d L o w2 (H.out.below HB2.out (Nat.le_refl _)) HOK.out HL.out (HO.out.below HB2.out (Nat.le_refl _)) HD.out.1 HD.out.2.1 HWH.out.inn).mono ?_
      rintro r w3 ⟨⟨b, rfl, hb⟩, hbw⟩
      have HB3 := Lib.hid (HB2.out.trans (hbw.mono HB2.out.size))
      have HT := Lib.hid hb
      clear hb hbw
      cases b with
      | false =>
        have HE := Lib.hid (show ff = false from by rw [← HFF.out]; exact fitB_no fun q => by have := HT.out.2 (HFP.out.1 q).2.2.1; cases this)
        go_wp2
        go_ret
        exact ⟨by rw [HE.out]; rfl, HB3.out⟩
      | true =>
        have HTM := Lib.hid (HT.out.1 rfl)
        go_wp2_with fail
        refine (legal_any A B c d L o w3 (H.out.below HB3.out (Nat.le_refl _)) HOK.out HL.out (HO.out.below HB3.out (Nat.le_refl _)) HWH.out.len HWH.out.inn).mono ?_
        rintro r w4 ⟨⟨b, rfl, hb⟩, hbw⟩
        have HB4 := Lib.hid (HB3.out.trans (hbw.mono HB3.out.size))
        have HE := Lib.hid (show ff = b from by
          rw [← HFF.out]
          cases b with
          | false => exact fitB_no fun q => by have := hb.2 (HFP.out.1 q).2.2.2; cases this
          | true => exact fitB_yes (HFP.out.2 ⟨HCS.out, HWH.out, HTM.out, hb.1 rfl⟩))
        clear hb hbw
        go_wp2
        go_ret
        exact ⟨by rw [HE.out]; rfl, HB4.out⟩
noncomputable def opqB (L : List Ev) : Bool := fndB L && fitB L (fndL L)
theorem fndL_len (L : List Ev) (h : Fnd L) : (fndL L).length = (crL L).length := by unfold fndL; rw [List.length_map, (find_good h.2).2]
theorem fndO_yes {L : List Ev} (h : fndB L = true) : fndO L = fndL L := by unfold fndO; rw [h]; rfl
theorem fndO_no {L : List Ev} (h : fndB L = false) : fndO L = [] := by unfold fndO; rw [h]; rfl
theorem fndO_len {L : List Ev} (hl : L.length ≤ 2000) : (fndO L).length ≤ 32 := by
  cases hb : fndB L with
  | false => rw [fndO_no hb]; exact Nat.zero_le _
  | true => rw [fndO_yes hb, fndL_len L ((fndB_iff L).1 hb)]; exact (Hi.crL_ok hl).2
set_option maxHeartbeats 4000000 in
theorem opaque_any (A : Option Addr) (c : Nat) (L : List Ev) (w : World) (h : Rn.At encE w A L) (hok : ∀ e ∈ L, e.ok) (hl : L.length ≤ 2000) :
    Calls Try.prog 16 #[.slice A L.length c] w fun r w' => r = .returned (.bool (opqB L)) ∧ Below w.heap.size w w' := by
  have H := Lib.hid h
  have HOK := Lib.hid hok
  have HL := Lib.hid hl
  have HF := Lib.hid (find_any A c L w h hok hl)
  unfold FindPost at HF
  unfold opqB
  have HLN := Lib.hid (fndO_len hl)
  clear h hok hl
  cases hfb : fndB L with
  | false =>
    rw [hfb] at HF
    clear hfb
    go_enter Try.func16, Try.ntmps16
    go_wp2_with fail
    refine HF.out.mono ?_
    rintro r w1 ⟨v, rfl, _, hb⟩
    have HB := Lib.hid hb
    clear hb
    go_wp2
    go_ret
    exact ⟨rfl, HB.out⟩
  | true =>
    rw [hfb] at HF
    rw [← fndO_yes hfb]
    clear hfb
    generalize fndO L = o at HF HLN ⊢
    generalize hff : fitB L o = ff
    have HFF := Lib.hid hff
    clear hff
    go_enter Try.func16, Try.ntmps16
    go_wp2_with fail
    refine HF.out.mono ?_
    rintro r w1 ⟨v, rfl, hown, hb⟩
    obtain ⟨B, d, rfl, h1, h2, hat, _⟩ := hown.slice
    have HB := Lib.hid hb
    have HAT := Lib.hid hat
    have HD := Lib.hid (show o.length ≤ d ∧ d ≤ maxLen from ⟨h1, h2⟩)
    clear hown hb hat h1 h2
    go_wp2_with fail
    refine (fits_any A B c d L o w1 (H.out.below HB.out (Nat.le_refl _)) HOK.out HL.out HAT.out HD.out.1 HD.out.2 (by have := HLN.out; omega)).mono ?_
    rw [HFF.out]
    rintro r w2 ⟨rfl, hb⟩
    have HB2 := Lib.hid (HB.out.trans (hb.mono HB.out.size))
    clear hb
    go_wp2
    go_ret
    exact ⟨by simp, HB2.out⟩
end Go.Proofs.Ytaonepbongbhoaa.Jd
namespace Go.Proofs.Ytaonepbongbhoaa.Jd
open Go.RowKit
open Hi (Ev Cr encE crs crL entF upd never)
open Rp (allI)
def b1 : Ev := ⟨0, 1, 0, 0, 0⟩
def r1 : Ev := ⟨1, 1, 0, 1, 0⟩
def r5 : Ev := ⟨1, 1, 0, 1, 5⟩
def hL : List Ev := [b1, r1]
def gL : List Ev := [b1, r5]
def kH : Cr := ⟨0, never, false, upd (fun _ => none) 0 1, fun _ => none⟩
theorem hL_ok : ∀ e ∈ hL, e.ok := fun e he => by
  simp [hL] at he
  rcases he with rfl | rfl <;> refine ⟨⟨?_, ?_⟩, ⟨?_, ?_⟩, ⟨?_, ?_⟩, ⟨?_, ?_⟩, ⟨?_, ?_⟩⟩ <;> decide
theorem gL_ok : ∀ e ∈ gL, e.ok := fun e he => by
  simp [gL] at he
  rcases he with rfl | rfl <;> refine ⟨⟨?_, ?_⟩, ⟨?_, ?_⟩, ⟨?_, ?_⟩, ⟨?_, ?_⟩, ⟨?_, ?_⟩⟩ <;> decide
theorem hL_crs : crs hL = some [kH] := rfl
theorem gL_crs : crs gL = some [kH] := rfl
theorem hL_crL : crL hL = [kH] := rfl
theorem gL_crL : crL gL = [kH] := rfl
theorem one_fnd {L : List Ev} (h1 : crs L = some [kH]) (h2 : L.length ≤ 2000) : Fnd L ∧ fndL L = [1] := by
  have hs : (crs L).isSome = true := by rw [h1]; rfl
  have hr := row_is h2 hs
  have hc : crL L = [kH] := by unfold Hi.crL; rw [h1]; rfl
  have hn : (crL L).length = 1 := by rw [hc]; rfl
  have ha : Acy (eL L) (crL L).length := by
    rw [hn]
    have no : ∀ a b, ¬ (a < 1 ∧ b < 1 ∧ eL L a b = true) := fun a b ⟨h1, h2, h3⟩ => by
      have := ((Hi.ge_dc hr a b).1 ((eL_iff L a b).1 h3)).2.2.1
      omega
    intro i hw
    have : ∀ i j, Mm.W (fun a b => a < 1 ∧ b < 1 ∧ eL L a b = true) i j → False := fun i j hw => by
      induction hw with
      | one h => exact no _ _ h
      | more _ h _ => exact no _ _ h
    exact this i i hw
  refine ⟨⟨hs, ha⟩, ?_⟩
  obtain ⟨g, hl⟩ := find_good ha
  unfold fndL
  rw [hn] at g hl ⊢
  generalize findO (eL L) 1 = l at g hl ⊢
  match l, hl with
  | [a], _ =>
    have := g.lt a (by simp)
    have e : a = 0 := by omega
    subst e; rfl
theorem hL_row : rowO hL [1] = [⟨1, false, false, [⟨0, 1, 0, false⟩], []⟩] := by
  show [entF hL (crL hL) 0] = _
  rw [hL_crL]
  rfl
theorem gL_row : rowO gL [1] = [⟨1, false, false, [⟨0, 1, 5, false⟩], []⟩] := by
  show [entF gL (crL gL) 0] = _
  rw [gL_crL]
  rfl
theorem hL_whole : Whole [1] 1 := ⟨rfl, fun j hj => by
  have : j = 0 := by omega
  subst this; simp⟩
theorem one_time (l : List Cr) : Timely l [1] := fun i k x y c d hk hx _ _ _ => by
  have := (List.getElem?_eq_some_iff.1 hx).1
  simp at this
  omega
theorem hL_fit : Fit hL [1] := by
  rw [fit_parts]
  refine ⟨by rw [hL_crs]; rfl, by rw [hL_crL]; exact hL_whole, one_time _, ?_⟩
  rw [hL_row]
  decide
theorem gL_no : ¬ Fit gL [1] := fun h => by
  have := (fit_parts.1 h).2.2.2
  rw [gL_row] at this
  revert this
  decide
theorem hL_nil : ¬ Fit hL [] := fun h => by
  have := h.len
  rw [hL_crL] at this
  simp at this
def hLc : Array Value := #[.int .i64 0, .int .i64 1, .int .i64 0, .int .i64 0, .int .i64 0, .int .i64 1, .int .i64 1, .int .i64 0, .int .i64 1, .int .i64 0]
def gLc : Array Value := #[.int .i64 0, .int .i64 1, .int .i64 0, .int .i64 0, .int .i64 0, .int .i64 1, .int .i64 1, .int .i64 0, .int .i64 1, .int .i64 5]
theorem ev_at (w : World) (g : Nat) (c : Array Value) (L : List Ev) (h : w.heap[g]? = some (.cells c 53 (0, 0))) (e : c.toList = Rn.flat encE L) : Rn.At encE w (some ⟨g, 0, none⟩) L :=
  ⟨fun _ => ⟨_, rfl, fun j u hu => by
    have hadd : (⟨g, 0, none⟩ : Addr).add j = ⟨g, j, none⟩ := by unfold Addr.add; split <;> simp_all
    rw [hadd, cell_of_row _ g j c 53 (0, 0) h]
    rw [← e] at hu
    simpa using hu⟩⟩
theorem one_at (W : World) : Rn.At Hi.encI (W.alloc (.cells #[.int .i64 1] 3)) (some ⟨W.heap.size, 0, none⟩) [1] := Rn.At.new W 1 #[.int .i64 1] rfl 3 rfl
/-- both rows of events, and all that lay there. -/
structure AlJ (w : World) (p q : Nat) (W : World) : Prop where
  h : Rn.At encE W (some ⟨p, 0, none⟩) hL
  g : Rn.At encE W (some ⟨q, 0, none⟩) gL
  bel : Below w.heap.size w W
theorem AlJ.below {w : World} {p q : Nat} {W W' : World} (h : AlJ w p q W) (hb : Below W.heap.size W W') : AlJ w p q W' := ⟨at_below h.h hb, at_below h.g hb, h.bel.trans (hb.mono h.bel.size)⟩
set_option maxRecDepth 100000 in
set_option maxHeartbeats 8000000 in
theorem jalive_any (w : World) : Calls Try.prog 6 #[] w fun e w' => e = .returned (.bool true) ∧ Below w.heap.size w w' := by
  have HS0 := Lib.hid (show AlJ w w.heap.size (w.heap.size + 1) ((w.alloc (.cells hLc 53)).alloc (.cells gLc 53)) from
    ⟨ev_at _ _ hLc _ (heap_alloc2_old _ _ _) rfl, ev_at _ _ gLc _ (heap_alloc2_new _ _ _) rfl, (Rn.below_new _ _).alloc (by simp) _⟩)
  unfold hLc gLc at HS0
  have HF1 := Lib.hid (one_fnd hL_crs (by decide))
  have HF2 := Lib.hid (one_fnd gL_crs (by decide))
  have HB1 := Lib.hid (fndB_yes HF1.out.1)
  have HB2 := Lib.hid (fndB_yes HF2.out.1)
  have HO1 := Lib.hid (show opqB hL = true from by unfold opqB; rw [HB1.out, HF1.out.2, fitB_yes hL_fit]; rfl)
  have HO2 := Lib.hid (show opqB gL = false from by unfold opqB; rw [HB2.out, HF2.out.2, fitB_no gL_no]; rfl)
  go_enter Try.func6, Try.ntmps6
  go_wp2_with fail
  generalize hW0 : World.alloc _ _ = W0 at HS0 ⊢
  clear hW0
  refine (find_any _ 2 hL W0 HS0.out.h hL_ok (by decide)).mono ?_
  unfold FindPost
  rw [HB1.out, fndO_yes HB1.out, HF1.out.2]
  rintro r w1 ⟨v, rfl, hown, hb⟩
  obtain ⟨B, d, rfl, _, _, hat, _⟩ := hown.slice
  have HS1 := Lib.hid (HS0.out.below hb)
  obtain ⟨ad, hBe, c0⟩ := atI hat (j := 0) (x := 1) rfl
  subst hBe
  have HC1 := Lib.hid c0
  have HA1 := Lib.hid (one_at w1)
  have HS2 := Lib.hid (HS1.out.below (Rn.below_new w1 (.cells #[.int .i64 1] 3)))
  clear hb hown hat c0
  go_wp2_with fail
  refine (fits_any _ _ 2 1 hL [1] _ HS2.out.h hL_ok (by decide) HA1.out (by decide) (by decide) (by decide)).mono ?_
  rw [fitB_yes hL_fit]
  rintro r w2 ⟨rfl, hb⟩
  have HC2 := Lib.hid (((Rn.below_new w1 (.cells #[.int .i64 1] 3)).trans (hb.mono (Rn.below_new w1 (.cells #[.int .i64 1] 3)).size)).cell (Rn.cell_lt HC1.out) |>.trans HC1.out)
  have HS3 := Lib.hid (HS2.out.below hb)
  have HA2 := Lib.hid (one_at w2)
  have HS4 := Lib.hid (HS3.out.below (Rn.below_new w2 (.cells #[.int .i64 1] 3)))
  clear hb
  go_wp2_with fail
  refine (fits_any _ _ 2 1 gL [1] _ HS4.out.g gL_ok (by decide) HA2.out (by decide) (by decide) (by decide)).mono ?_
  rw [fitB_no gL_no]
  rintro r w3 ⟨rfl, hb⟩
  have HC3 := Lib.hid (((Rn.below_new w2 (.cells #[.int .i64 1] 3)).trans (hb.mono (Rn.below_new w2 (.cells #[.int .i64 1] 3)).size)).cell (Rn.cell_lt HC2.out) |>.trans HC2.out)
  have HS5 := Lib.hid (HS4.out.below hb)
  clear hb
  go_wp2_with fail
  refine (fits_any _ none 2 0 hL [] _ HS5.out.h hL_ok (by decide) (Rn.At.nil _ _) (by decide) (by decide) (by decide)).mono ?_
  rw [fitB_no hL_nil]
  rintro r w4 ⟨rfl, hb⟩
  have HC4 := Lib.hid ((hb.cell (Rn.cell_lt HC3.out)).trans HC3.out)
  have HS6 := Lib.hid (HS5.out.below hb)
  clear hb
  have c4 := HC4.out
  have c4' : w4.cell? ad = some (.int .i64 1) := by have := HC4.out; rwa [show ad.add 0 = ad by simp [Addr.add]] at this
  go_wp2_with fail
  refine (opaque_any _ 2 hL _ HS6.out.h hL_ok (by decide)).mono ?_
  rw [HO1.out]
  rintro r w5 ⟨rfl, hb⟩
  have HS7 := Lib.hid (HS6.out.below hb)
  clear hb c4 c4'
  go_wp2_with fail
  refine (opaque_any _ 2 gL _ HS7.out.g gL_ok (by decide)).mono ?_
  rw [HO2.out]
  rintro r w6 ⟨rfl, hb⟩
  have HS8 := Lib.hid (HS7.out.below hb)
  clear hb
  go_wp2
  go_ret
  exact ⟨rfl, HS8.out.bel⟩
end Go.Proofs.Ytaonepbongbhoaa.Jd
